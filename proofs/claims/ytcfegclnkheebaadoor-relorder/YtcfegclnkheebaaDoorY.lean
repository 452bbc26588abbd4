/-
  Plain facts: laws of relations, their ways, rings and orders.
-/
import Derived.Test.YtcfegclnkheebaaDoorX
namespace Go.Proofs.YtcfegclnkheebaaDoor

/-- All of it lies below n. -/
def In (n : Nat) (R : Nat → Nat → Bool) : Prop := ∀ a b, R a b = true → a < n ∧ b < n
theorem Way.lt {R : Nat → Nat → Bool} {n a b : Nat} (hR : In n R) (h : Way R n a b) : a < n ∧ b < n :=
  h.ind (fun x => a < n ∧ x < n) (fun x hx => hR a x hx) (fun x y _ hx hr => ⟨hx.1, (hR x y hr).2⟩)
theorem Way.head {R : Nat → Nat → Bool} {n a b c : Nat} (h : R a b = true) (hb : b < n) (h' : Way R n b c) : Way R n a c := (Way.one h).trans hb h'
theorem way_iff {R : Nat → Nat → Bool} {n a b : Nat} : Way R n a b ↔ R a b = true ∨ ∃ j, j < n ∧ R a j = true ∧ Way R n j b := by
  constructor
  · intro h
    exact h.ind (fun x => R a x = true ∨ ∃ j, j < n ∧ R a j = true ∧ Way R n j x) (fun x hx => Or.inl hx) (fun x y hx hp hr => by
      rcases hp with hp | ⟨j, hj, h1, h2⟩
      · exact Or.inr ⟨x, hx, hp, Way.one hr⟩
      · exact Or.inr ⟨j, hj, h1, h2.more hx hr⟩)
  · rintro (h | ⟨j, hj, h1, h2⟩)
    · exact Way.one h
    · exact Way.head h1 hj h2
theorem way_turn {R : Nat → Nat → Bool} {n a b : Nat} (h : Way R n a b) : Way (fun i k => R k i) n b a :=
  h.ind (fun x => Way (fun i k => R k i) n x a) (fun x hx => Way.one hx) (fun x y hx hw hr => Way.head (R := fun i k => R k i) hr (by exact hx) hw)
theorem way_way {R P : Nat → Nat → Bool} {n a b : Nat} (hP : ∀ a b, a < n → b < n → (P a b = true ↔ Way R n a b)) (hPn : In n P) (hR : In n R) : Way P n a b ↔ Way R n a b := by
  constructor
  · intro h
    exact h.ind (fun x => Way R n a x) (fun x hx => (hP a x (hPn a x hx).1 (hPn a x hx).2).1 hx) (fun x y hx hw hr => hw.trans hx ((hP x y hx (hPn x y hr).2).1 hr))
  · intro h
    obtain ⟨ha, hb⟩ := h.lt hR
    exact Way.one ((hP a b ha hb).2 h)
theorem via_assoc (A B C : Nat → Nat → Bool) (n a b : Nat) : viaB (viaB A B n) C n a b = viaB A (viaB B C n) n a b := by
  rw [Bool.eq_iff_iff, viaB_iff, viaB_iff]
  constructor
  · rintro ⟨j, hj, h1, h2⟩
    obtain ⟨i, hi, h3, h4⟩ := viaB_iff.1 h1
    exact ⟨i, hi, h3, viaB_iff.2 ⟨j, hj, h4, h2⟩⟩
  · rintro ⟨i, hi, h3, h1⟩
    obtain ⟨j, hj, h4, h2⟩ := viaB_iff.1 h1
    exact ⟨j, hj, viaB_iff.2 ⟨i, hi, h3, h4⟩, h2⟩
theorem via_or (A B C : Nat → Nat → Bool) (n a b : Nat) : viaB A (fun i k => B i k || C i k) n a b = (viaB A B n a b || viaB A C n a b) := by
  rw [Bool.eq_iff_iff, Bool.or_eq_true, viaB_iff, viaB_iff, viaB_iff]
  constructor
  · rintro ⟨j, hj, h1, h2⟩
    rw [Bool.or_eq_true] at h2
    rcases h2 with h2 | h2
    · exact Or.inl ⟨j, hj, h1, h2⟩
    · exact Or.inr ⟨j, hj, h1, h2⟩
  · rintro (⟨j, hj, h1, h2⟩ | ⟨j, hj, h1, h2⟩)
    · exact ⟨j, hj, h1, by rw [h2]; rfl⟩
    · exact ⟨j, hj, h1, by rw [h2, Bool.or_true]⟩
theorem via_turn (A B : Nat → Nat → Bool) (n a b : Nat) : viaB A B n b a = viaB (fun i k => B k i) (fun i k => A k i) n a b := by
  rw [Bool.eq_iff_iff, viaB_iff, viaB_iff]
  constructor
  · rintro ⟨j, hj, h1, h2⟩; exact ⟨j, hj, h2, h1⟩
  · rintro ⟨j, hj, h1, h2⟩; exact ⟨j, hj, h2, h1⟩

theorem pigeon : ∀ (n : Nat) (f : Nat → Nat), (∀ i, i ≤ n → f i < n) → ∃ i j, i < j ∧ j ≤ n ∧ f i = f j := by
  intro n
  induction n with
  | zero => intro f h; have := h 0 (Nat.le_refl _); omega
  | succ n ih =>
    intro f h
    by_cases hv : ∃ i, i ≤ n ∧ f i = f (n + 1)
    · obtain ⟨i, hi, e⟩ := hv
      exact ⟨i, n + 1, by omega, Nat.le_refl _, e⟩
    · have hne : ∀ i, i ≤ n → f i ≠ f (n + 1) := fun i hi e => hv ⟨i, hi, e⟩
      have hl := h (n + 1) (Nat.le_refl _)
      obtain ⟨i, j, hij, hj, e⟩ := ih (fun i => if f (n + 1) < f i then f i - 1 else f i) (fun i hi => by
        have h1 := h i (by omega)
        have h2 := hne i hi
        split <;> omega)
      refine ⟨i, j, hij, by omega, ?_⟩
      have h1 := hne i (by omega)
      have h2 := hne j hj
      split at e <;> split at e <;> omega

/-- Where each one of some has one of them ahead of it there is a ring. -/
theorem ring_of_back {R : Nat → Nat → Bool} {n : Nat} (U : Nat → Prop) (hU : ∀ k, U k → k < n) (u : Nat) (hu : U u) (hb : ∀ k, U k → ∃ i, U i ∧ R i k = true) : ∃ a, a < n ∧ Way R n a a := by
  have pick : ∀ k : { k // U k }, ∃ i : { i // U i }, R i.1 k.1 = true := fun k => by
    obtain ⟨i, hi, hr⟩ := hb k.1 k.2
    exact ⟨⟨i, hi⟩, hr⟩
  have hf : ∃ f : Nat → { k // U k }, ∀ i, R (f (i + 1)).1 (f i).1 = true := by
    refine ⟨fun i => Nat.rec (⟨u, hu⟩ : { k // U k }) (fun _ k => Classical.choose (pick k)) i, fun i => ?_⟩
    exact Classical.choose_spec (pick _)
  obtain ⟨f, hf⟩ := hf
  obtain ⟨i, j, hij, hj, e⟩ := pigeon n (fun i => (f i).1) (fun i _ => hU _ (f i).2)
  have key : ∀ d, Way R n (f (i + d + 1)).1 (f i).1 := by
    intro d
    induction d with
    | zero => exact Way.one (hf i)
    | succ d ih => exact Way.head (hf (i + d + 1)) (hU _ (f _).2) ih
  have := key (j - i - 1)
  rw [show i + (j - i - 1) + 1 = j by omega] at this
  rw [← e] at this
  exact ⟨(f i).1, hU _ (f i).2, this⟩
theorem ordF_none_ring {R : Nat → Nat → Bool} {n : Nat} : ∀ (f : Nat) (l : List Nat), ordF R n f l = none → ∃ l', (∀ k, k < n → freeB R n l' k = false) ∧ ∃ t, l' = l ++ t ∧ t.length < f := by
  intro f
  induction f with
  | zero => intro l h; simp [ordF] at h
  | succ f ih =>
    intro l h
    by_cases hm : leastFrom R n l n < n
    · rw [ordF_some hm] at h
      obtain ⟨l', h1, t, h2, h3⟩ := ih (l ++ [leastFrom R n l n]) h
      exact ⟨l', h1, leastFrom R n l n :: t, by rw [h2]; simp, by simp; omega⟩
    · refine ⟨l, fun k hk => ?_, [], by simp, by simp⟩
      have sp := leastFrom_spec R n l n (Nat.le_refl _)
      exact sp.2.2 k (by omega) (by have := sp.1; omega)
theorem untold {n : Nat} (l : List Nat) (h : l.length < n) : ∃ u, u < n ∧ u ∉ l := by
  apply Classical.byContradiction
  intro hc
  have all : ∀ u, u < n → u ∈ l := fun u hu => Classical.byContradiction fun h' => hc ⟨u, hu, h'⟩
  obtain ⟨i, j, hij, hj, e⟩ := pigeon l.length (fun i => if i < n then l.idxOf i else 0) (fun i hi => by
    have hin : i < n := by omega
    rw [if_pos hin]
    exact List.idxOf_lt_length_of_mem (all i hin))
  rw [if_pos (by omega), if_pos (by omega)] at e
  have h1 := List.getElem_idxOf (List.idxOf_lt_length_of_mem (all i (by omega)))
  have h2 := List.getElem_idxOf (List.idxOf_lt_length_of_mem (all j (by omega)))
  have : l[l.idxOf i]? = l[l.idxOf j]? := by rw [e]
  rw [List.getElem?_eq_getElem (List.idxOf_lt_length_of_mem (all i (by omega))), List.getElem?_eq_getElem (List.idxOf_lt_length_of_mem (all j (by omega))), Option.some.injEq, h1, h2] at this
  omega
theorem ord_none {R : Nat → Nat → Bool} {n : Nat} (h : ordL R n = none) : ∃ a, a < n ∧ Way R n a a := by
  obtain ⟨l, h1, t, h2, h3⟩ := ordF_none_ring n [] h
  rw [List.nil_append] at h2
  subst h2
  obtain ⟨u, hu, hul⟩ := untold l h3
  refine ring_of_back (fun k => k < n ∧ k ∉ l) (fun k h => h.1) u ⟨hu, hul⟩ (fun k hk => ?_)
  have hf := h1 k hk.1
  apply Classical.byContradiction
  intro hc
  have : freeB R n l k = true := freeB_iff.2 ⟨hk.2, fun i hi hil => by
    cases e : R i k
    · rfl
    · exact absurd ⟨i, ⟨hi, hil⟩, e⟩ hc⟩
  rw [hf] at this; simp at this

/-- Told so far: each below n, each once, and nobody stands to one that is told ahead of it or to itself; and whoever isn't told stands to none of them. -/
structure Told (R : Nat → Nat → Bool) (n : Nat) (l : List Nat) : Prop where
  lt : ∀ x, x ∈ l → x < n
  once : ∀ i j, i < l.length → j < l.length → l.getD i 0 = l.getD j 0 → i = j
  ahead : ∀ i k, k ≤ i → i < l.length → R (l.getD i 0) (l.getD k 0) = false
  rest : ∀ x, x < n → x ∉ l → ∀ k, k < l.length → R x (l.getD k 0) = false
theorem Told.nil (R : Nat → Nat → Bool) (n : Nat) : Told R n [] :=
  ⟨fun x hx => by simp at hx, fun i j hi => by simp at hi, fun i k _ hi => by simp at hi, fun x _ _ k hk => by simp at hk⟩
theorem getD_snoc {l : List Nat} {m i : Nat} (h : i < l.length) : (l ++ [m]).getD i 0 = l.getD i 0 := by
  rw [List.getD_eq_getElem?_getD, List.getElem?_append_left h, ← List.getD_eq_getElem?_getD]
theorem getD_last (l : List Nat) (m : Nat) : (l ++ [m]).getD l.length 0 = m := by simp
theorem getD_mem {l : List Nat} {i : Nat} (h : i < l.length) : l.getD i 0 ∈ l := by
  have : l.getD i 0 = l[i] := by simp [h]
  rw [this]; exact List.getElem_mem h
theorem Told.next {R : Nat → Nat → Bool} {n : Nat} {l : List Nat} {m : Nat} (h : Told R n l) (hm : m < n) (hf : freeB R n l m = true) : Told R n (l ++ [m]) := by
  obtain ⟨f1, f2⟩ := freeB_iff.1 hf
  refine ⟨fun x hx => ?_, fun i j hi hj e => ?_, fun i k hk hi => ?_, fun x hx hxl k hk => ?_⟩
  · rcases List.mem_append.1 hx with h1 | h1
    · exact h.lt x h1
    · simp only [List.mem_singleton] at h1; omega
  · rw [List.length_append, List.length_singleton] at hi hj
    by_cases ei : i < l.length
    · by_cases ej : j < l.length
      · rw [getD_snoc ei, getD_snoc ej] at e
        exact h.once i j ei ej e
      · have : j = l.length := by omega
        subst this
        rw [getD_snoc ei, getD_last] at e
        exact absurd (by rw [← e]; exact getD_mem ei) f1
    · have : i = l.length := by omega
      subst this
      by_cases ej : j < l.length
      · rw [getD_snoc ej, getD_last] at e
        exact absurd (by rw [e]; exact getD_mem ej) f1
      · omega
  · rw [List.length_append, List.length_singleton] at hi
    by_cases ei : i < l.length
    · rw [getD_snoc ei, getD_snoc (show k < l.length by omega)]
      exact h.ahead i k hk ei
    · have : i = l.length := by omega
      subst this
      rw [getD_last]
      by_cases ek : k < l.length
      · rw [getD_snoc ek]; exact h.rest m hm f1 k ek
      · have : k = l.length := by omega
        subst this
        rw [getD_last]; exact f2 m hm f1
  · rw [List.length_append, List.length_singleton] at hk
    have hxl' : x ∉ l := fun h' => hxl (List.mem_append.2 (Or.inl h'))
    by_cases ek : k < l.length
    · rw [getD_snoc ek]; exact h.rest x hx hxl' k ek
    · have : k = l.length := by omega
      subst this
      rw [getD_last]; exact f2 x hx hxl'
theorem ordF_some_told {R : Nat → Nat → Bool} {n : Nat} : ∀ (f : Nat) (l r : List Nat), Told R n l → ordF R n f l = some r → Told R n r ∧ r.length = l.length + f := by
  intro f
  induction f with
  | zero => intro l r h e; rw [ordF, Option.some.injEq] at e; subst e; exact ⟨h, rfl⟩
  | succ f ih =>
    intro l r h e
    by_cases hm : leastFrom R n l n < n
    · rw [ordF_some hm] at e
      have sp := leastFrom_spec R n l n (Nat.le_refl _)
      obtain ⟨i1, i2⟩ := ih _ r (h.next hm (sp.2.1 hm).2) e
      rw [List.length_append, List.length_singleton] at i2
      exact ⟨i1, by omega⟩
    · rw [ordF_none hm] at e; simp at e
theorem ord_some {R : Nat → Nat → Bool} {n : Nat} {l : List Nat} (h : ordL R n = some l) : Told R n l ∧ l.length = n := by
  obtain ⟨h1, h2⟩ := ordF_some_told n [] l (Told.nil R n) h
  exact ⟨h1, by simpa using h2⟩
theorem told_all {R : Nat → Nat → Bool} {n : Nat} {l : List Nat} (h : Told R n l) (hl : l.length = n) (x : Nat) (hx : x < n) : ∃ i, i < n ∧ l.getD i 0 = x := by
  apply Classical.byContradiction
  intro hc
  obtain ⟨i, j, hij, hj, e⟩ := pigeon (n - 1) (fun i => if x < l.getD i 0 then l.getD i 0 - 1 else l.getD i 0) (fun i hi => by
    have := h.lt (l.getD i 0) (getD_mem (by omega))
    have ne : l.getD i 0 ≠ x := fun e => hc ⟨i, by omega, e⟩
    split <;> omega)
  have ne : l.getD i 0 ≠ x := fun e => hc ⟨i, by omega, e⟩
  have nej : l.getD j 0 ≠ x := fun e => hc ⟨j, by omega, e⟩
  have ee : l.getD i 0 = l.getD j 0 := by split at e <;> split at e <;> omega
  have := h.once i j (by omega) (by omega) ee
  omega
theorem told_noring {R : Nat → Nat → Bool} {n : Nat} {l : List Nat} (hR : In n R) (h : Told R n l) (hl : l.length = n) (a : Nat) : ¬ Way R n a a := by
  intro hw
  have key : ∀ b, Way R n a b → ∃ i j, i < n ∧ j < n ∧ l.getD i 0 = a ∧ l.getD j 0 = b ∧ i < j := by
    intro b hb
    refine hb.ind (fun x => ∃ i j, i < n ∧ j < n ∧ l.getD i 0 = a ∧ l.getD j 0 = x ∧ i < j) (fun x hx => ?_) (fun x y hx hp hr => ?_)
    · obtain ⟨ha, hx'⟩ := hR a x hx
      obtain ⟨i, hi, ei⟩ := told_all h hl a ha
      obtain ⟨j, hj, ej⟩ := told_all h hl x hx'
      refine ⟨i, j, hi, hj, ei, ej, ?_⟩
      apply Nat.not_le.1
      intro hc
      have := h.ahead i j hc (by omega)
      rw [ei, ej, hx] at this; simp at this
    · obtain ⟨i, j, hi, hj, ei, ej, hij⟩ := hp
      obtain ⟨_, hy⟩ := hR x y hr
      obtain ⟨k, hk, ek⟩ := told_all h hl y hy
      refine ⟨i, k, hi, hk, ei, ek, ?_⟩
      have : j < k := by
        apply Nat.not_le.1
        intro hc
        have := h.ahead j k hc (by omega)
        rw [ej, ek, hr] at this; simp at this
      omega
  obtain ⟨i, j, hi, hj, ei, ej, hij⟩ := key a hw
  have := h.once i j (by omega) (by omega) (by rw [ei, ej])
  omega
end Go.Proofs.YtcfegclnkheebaaDoor
