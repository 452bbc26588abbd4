/-
  The contracts of the program's own functions of layer 2, as the statements' walks ask for them.
-/
import Derived.Test.YtcfegclnkheebaaDoorV
namespace Go.Proofs.YtcfegclnkheebaaDoor
open Go.RowKit

theorem gives {f : Nat} {args : Array Value} {w : World} {n : Nat} {F : Nat → Nat → Bool} (hn : n ≤ 64) (h : Calls Tryd.prog f args w fun e w' => ∃ g zs, e = .returned (.slice (some ⟨g, 0, none⟩) zs.length zs.length) ∧ OwnU w' g zs ∧ Bits n F zs ∧ w.heap.size ≤ g ∧ Below w.heap.size w w') : Gives f args w n F :=
  h.mono fun _ _ ⟨_, zs, e, ho, hb, _, hl⟩ => ⟨_, zs, e, Sl.own ho hb.2.1 (by have := hb.1; omega) _, hb, hl⟩
theorem szmax (xs ys : List Nat) : max (sz xs) (sz ys) ≤ 64 := by
  have := sz_le xs; have := sz_le ys; omega
open Classical in
theorem rel2 : Rel2 where
  has := has_of
  union := fun u v xs ys w hu hv => gives (szmax xs ys) (union_of u v xs ys w hu hv)
  inter := fun u v xs ys w hu hv => gives (szmax xs ys) (inter_of u v xs ys w hu hv)
  minus := fun u v xs ys w hu hv => gives (szmax xs ys) (minus_of u v xs ys w hu hv)
  thn := fun u v xs ys w hu hv tab => gives (szmax xs ys) (then_of u v xs ys w hu hv tab)
  back := fun u xs w hu tab => gives (sz_le xs) (back_of u xs w hu tab)
  plus := fun u xs w hu => ⟨fun a b => decide (Way (relB xs) (sz xs) a b), fun _ _ _ _ => decide_eq_true_iff, gives (sz_le xs) ((plus_of u xs w hu).mono fun _ _ ⟨g, zs, G, e, ho, hb, hG, hg, hl⟩ =>
    ⟨g, zs, e, ho, hb.congr fun a b ha hb => by rw [Bool.eq_iff_iff, decide_eq_true_iff]; exact hG a b ha hb, hg, hl⟩)⟩
  star := fun u xs w hu => ⟨fun a b => decide (Way (relB xs) (sz xs) a b), fun _ _ _ _ => decide_eq_true_iff, gives (sz_le xs) ((star_of u xs w hu).mono fun _ _ ⟨g, zs, G, e, ho, hb, hG, hg, hl⟩ =>
    ⟨g, zs, e, ho, hb.congr fun a b ha hb => by
      have : G a b = decide (Way (relB xs) (sz xs) a b) := by rw [Bool.eq_iff_iff, decide_eq_true_iff]; exact hG a b ha hb
      rw [this], hg, hl⟩)⟩
  ring := fun u xs w hu => ⟨decide (∃ a, a < sz xs ∧ Way (relB xs) (sz xs) a a), decide_eq_true_iff, (ring_of u xs w hu).mono fun _ _ ⟨r, e, hr, hl⟩ => by
    refine ⟨?_, hl⟩
    have : r = decide (∃ a, a < sz xs ∧ Way (relB xs) (sz xs) a a) := by rw [Bool.eq_iff_iff, decide_eq_true_iff]; exact hr
    rw [e, this]⟩
  order := fun u xs w hu tab => by
    have h := order_of u xs w hu tab
    cases ho : ordL (relB xs) (sz xs) with
    | none =>
      refine ⟨[], false, rfl, fun _ => rfl, h.mono fun _ _ ⟨hl, h⟩ => ?_⟩
      rcases h with ⟨_, e⟩ | ⟨v, l, h1, _⟩
      · exact ⟨_, e, SlI.nil _, hl⟩
      · have := ho.symm.trans h1; simp at this
    | some l =>
      refine ⟨l, true, rfl, fun h => by simp at h, h.mono fun _ _ ⟨hl, h⟩ => ?_⟩
      rcases h with ⟨h1, _⟩ | ⟨v, l', h1, e, hq, hlen⟩
      · have := ho.symm.trans h1; simp at this
      · have := Option.some.inj (ho.symm.trans h1)
        subst this
        exact ⟨v, e, hq.sl (by have := sz_le xs; omega), hl⟩
theorem ofC : OfC := fun n v ps w hv => (of_of n v ps w hv).mono fun _ _ ⟨hl, h⟩ => by
    rcases h with ⟨h1, rfl⟩ | ⟨h1, h2, rfl⟩ | ⟨h1, h2, g, zs, rfl, ho, hb, _⟩
    · exact ⟨_, [], 1, rfl, Sl.nil _, Or.inl ⟨rfl, rfl, h1⟩, hl⟩
    · exact ⟨_, [], 2, rfl, Sl.nil _, Or.inr (Or.inl ⟨rfl, rfl, h1, h2⟩), hl⟩
    · exact ⟨_, zs, 0, rfl, Sl.own ho hb.2.1 (by have := hb.1; omega) _, Or.inr (Or.inr ⟨rfl, hb, h1, h2⟩), hl⟩
end Go.Proofs.YtcfegclnkheebaaDoor
