/-
  Plain facts on rows of words that are put in order: exchanges, turns of two pieces, merges; no program is named here.
-/
import Derived.Test.YtmagldelgnkkfaaM
namespace Go.Proofs.Ytmagldelgnkkfaa

/-- The word at a place. -/
def at0 (zs : List Nat) (x : Nat) : Nat := zs.getD x 0
/-- Two places exchanged. -/
def swp (zs : List Nat) (i j : Nat) : List Nat := (zs.set i (zs.getD j 0)).set j (zs.getD i 0)
theorem swp_len (zs : List Nat) (i j : Nat) : (swp zs i j).length = zs.length := by unfold swp; simp
theorem swp_at {zs : List Nat} {i j : Nat} (hi : i < zs.length) (hj : j < zs.length) (x : Nat) :
    at0 (swp zs i j) x = if x = j then at0 zs i else if x = i then at0 zs j else at0 zs x := by
  unfold at0 swp
  simp only [List.getD_eq_getElem?_getD, List.getElem?_set, List.length_set]
  by_cases h1 : x = j
  · subst h1; simp [hj]
  · have h1' : ¬ j = x := fun e => h1 e.symm
    simp only [h1, h1', if_false]
    by_cases h2 : x = i
    · subst h2; simp [hi]
    · have h2' : ¬ i = x := fun e => h2 e.symm
      simp only [h2, h2', if_false]
theorem swp_perm {zs : List Nat} {i j : Nat} (hi : i < zs.length) (hj : j < zs.length) : (swp zs i j).Perm zs := by
  unfold swp
  have e1 : zs.getD i 0 = zs[i] := by simp [hi]
  have e2 : zs.getD j 0 = zs[j] := by simp [hj]
  rw [e1, e2]
  exact List.set_set_perm hi hj

/-- zs' is zs with its places in another order, and those outside of a to b as they were. -/
structure Mix (zs zs' : List Nat) (a b : Nat) : Prop where
  perm : zs'.Perm zs
  out : ∀ x, x < a ∨ b ≤ x → at0 zs' x = at0 zs x
  ins : ∀ x, a ≤ x → x < b → ∃ y, a ≤ y ∧ y < b ∧ at0 zs' x = at0 zs y
theorem Mix.len {zs zs' : List Nat} {a b : Nat} (h : Mix zs zs' a b) : zs'.length = zs.length := h.perm.length_eq
theorem Mix.refl (zs : List Nat) (a b : Nat) : Mix zs zs a b := ⟨List.Perm.refl _, fun _ _ => rfl, fun x h1 h2 => ⟨x, h1, h2, rfl⟩⟩
theorem Mix.trans {zs ys xs : List Nat} {a b : Nat} (h : Mix zs ys a b) (g : Mix ys xs a b) : Mix zs xs a b :=
  ⟨g.perm.trans h.perm, fun x hx => (g.out x hx).trans (h.out x hx), fun x h1 h2 => by
    obtain ⟨y, y1, y2, e⟩ := g.ins x h1 h2
    obtain ⟨z, z1, z2, e'⟩ := h.ins y y1 y2
    exact ⟨z, z1, z2, e.trans e'⟩⟩
theorem Mix.wide {zs ys : List Nat} {a b c d : Nat} (h : Mix zs ys a b) (h1 : c ≤ a) (h2 : b ≤ d) : Mix zs ys c d :=
  ⟨h.perm, fun x hx => h.out x (by omega), fun x g1 g2 => by
    by_cases c1 : a ≤ x ∧ x < b
    · obtain ⟨y, y1, y2, e⟩ := h.ins x c1.1 c1.2
      exact ⟨y, by omega, by omega, e⟩
    · exact ⟨x, g1, g2, h.out x (by omega)⟩⟩
theorem Mix.swp {zs : List Nat} {i j a b : Nat} (hi : i < zs.length) (hj : j < zs.length) (i1 : a ≤ i) (i2 : i < b) (j1 : a ≤ j) (j2 : j < b) : Mix zs (swp zs i j) a b :=
  ⟨swp_perm hi hj, fun x hx => by rw [swp_at hi hj, if_neg (by omega), if_neg (by omega)], fun x h1 h2 => by
    rw [swp_at hi hj]
    by_cases c1 : x = j
    · rw [if_pos c1]; exact ⟨i, i1, i2, rfl⟩
    · rw [if_neg c1]
      by_cases c2 : x = i
      · rw [if_pos c2]; exact ⟨j, j1, j2, rfl⟩
      · rw [if_neg c2]; exact ⟨x, h1, h2, rfl⟩⟩
theorem Mix.fits {zs ys : List Nat} {a b : Nat} (h : Mix zs ys a b) (f : ∀ i, zs.getD i 0 < 18446744073709551616) : ∀ i, ys.getD i 0 < 18446744073709551616 := by
  intro i
  by_cases c : a ≤ i ∧ i < b
  · obtain ⟨y, _, _, e⟩ := h.ins i c.1 c.2
    show at0 ys i < _
    rw [e]; exact f y
  · have := h.out i (by omega)
    show at0 ys i < _
    rw [this]; exact f i

/-- From a to b in order. -/
def Srt (f : Nat → Nat) (a b : Nat) : Prop := ∀ x y, a ≤ x → x ≤ y → y < b → rank (f x) ≤ rank (f y)
theorem Srt.part {f : Nat → Nat} {a b c d : Nat} (h : Srt f a b) (h1 : a ≤ c) (h2 : d ≤ b) : Srt f c d := fun x y g1 g2 g3 => h x y (by omega) g2 (by omega)
theorem Srt.congr {f g : Nat → Nat} {a b : Nat} (h : Srt f a b) (e : ∀ x, a ≤ x → x < b → g x = f x) : Srt g a b := fun x y g1 g2 g3 => by
  rw [e x g1 (by omega), e y (by omega) g3]; exact h x y g1 g2 g3
theorem Srt.one (f : Nat → Nat) {a b : Nat} (h : b ≤ a + 1) : Srt f a b := fun x y g1 g2 g3 => by
  have : x = y := by omega
  subst this; exact Nat.le_refl _
theorem Srt.join {f : Nat → Nat} {a m b : Nat} (h : Srt f a m) (g : Srt f m b) (k : ∀ x y, a ≤ x → x < m → m ≤ y → y < b → rank (f x) ≤ rank (f y)) : Srt f a b := fun x y g1 g2 g3 => by
  by_cases c1 : y < m
  · exact h x y g1 g2 c1
  · by_cases c2 : m ≤ x
    · exact g x y c2 g2 g3
    · exact k x y g1 (by omega) (by omega) g3

/-- The pieces a to m and m to b, exchanged. -/
def rotF (f : Nat → Nat) (a m b : Nat) (x : Nat) : Nat :=
  if x < a then f x else if x < a + (b - m) then f (x + (m - a)) else if x < b then f (x - (b - m)) else f x
theorem rotF_none {f : Nat → Nat} {a m b : Nat} (h : m ≤ a ∨ b ≤ m) (x : Nat) (h1 : a ≤ m) (h2 : m ≤ b) : rotF f a m b x = f x := by
  unfold rotF
  split
  · rfl
  · split
    · congr 1; omega
    · split
      · congr 1; omega
      · rfl

/-- n places from a on and from b on exchanged. -/
def swF (f : Nat → Nat) (a b n : Nat) (x : Nat) : Nat :=
  if a ≤ x ∧ x < a + n then f (x - a + b) else if b ≤ x ∧ x < b + n then f (x - b + a) else f x
theorem swF_rot_gt {f : Nat → Nat} {m i j : Nat} (h : j < i) (hm : i ≤ m) (x : Nat) :
    rotF (swF f (m - i) m j) (m - (i - j)) m (m + j) x = rotF f (m - i) m (m + j) x := by
  unfold rotF swF
  repeat' split
  all_goals first | rfl | (exfalso; omega) | (congr 1; omega)
theorem swF_rot_lt {f : Nat → Nat} {m i j : Nat} (h : i < j) (hm : i ≤ m) (x : Nat) :
    rotF (swF f (m - i) (m + j - i) i) (m - i) m (m + (j - i)) x = rotF f (m - i) m (m + j) x := by
  unfold rotF swF
  repeat' split
  all_goals first | rfl | (exfalso; omega) | (congr 1; omega)
theorem swF_rot_eq {f : Nat → Nat} {m i : Nat} (hm : i ≤ m) (x : Nat) : swF f (m - i) m i x = rotF f (m - i) m (m + i) x := by
  unfold rotF swF
  repeat' split
  all_goals first | rfl | (exfalso; omega) | (congr 1; omega)
theorem rotF_congr {f g : Nat → Nat} (h : ∀ x, f x = g x) (a m b x : Nat) : rotF f a m b x = rotF g a m b x := by
  have : f = g := funext h
  rw [this]
theorem rotF_ins (f : Nat → Nat) {a m b : Nat} (h1 : a ≤ m) (h2 : m ≤ b) (x : Nat) (g1 : a ≤ x) (g2 : x < b) : ∃ y, a ≤ y ∧ y < b ∧ rotF f a m b x = f y := by
  unfold rotF
  rw [if_neg (by omega)]
  by_cases c : x < a + (b - m)
  · rw [if_pos c]; exact ⟨_, by omega, by omega, rfl⟩
  · rw [if_neg c, if_pos g2]; exact ⟨_, by omega, by omega, rfl⟩
theorem rotF_out (f : Nat → Nat) {a m b : Nat} (h1 : a ≤ m) (h2 : m ≤ b) (x : Nat) (g : x < a ∨ b ≤ x) : rotF f a m b x = f x := by
  unfold rotF
  by_cases c : x < a
  · rw [if_pos c]
  · rw [if_neg c, if_neg (by omega), if_neg (by omega)]
end Go.Proofs.Ytmagldelgnkkfaa
