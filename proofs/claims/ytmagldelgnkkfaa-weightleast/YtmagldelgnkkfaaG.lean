/-
  Plain facts: what is looked for by halves, what is put in its place, and two rows in order that are merged; no program is named here.
-/
import Derived.Test.YtmagldelgnkkfaaF
namespace Go.Proofs.Ytmagldelgnkkfaa

/-- Looked for by halves: the first places have it, the last ones have it not. -/
def Found (q : Nat → Bool) (lo hi i j : Nat) : Prop :=
  lo ≤ i ∧ i ≤ j ∧ j ≤ hi ∧ (∀ c, lo ≤ c → c < i → q c = true) ∧ (∀ c, j ≤ c → c < hi → q c = false)
def Mono (q : Nat → Bool) (lo hi : Nat) : Prop := ∀ c d, lo ≤ c → c ≤ d → d < hi → q d = true → q c = true
theorem Found.start {q : Nat → Bool} {lo hi : Nat} (h : lo ≤ hi) : Found q lo hi lo hi := ⟨Nat.le_refl _, h, Nat.le_refl _, fun c h1 h2 => by omega, fun c h1 h2 => by omega⟩
theorem Found.yes {q : Nat → Bool} {lo hi i j h : Nat} (f : Found q lo hi i j) (m : Mono q lo hi) (h1 : i ≤ h) (h2 : h < j) (e : q h = true) : Found q lo hi (h + 1) j :=
  ⟨by have := f.1; omega, by omega, f.2.2.1, fun c c1 c2 => m c h c1 (by omega) (by have := f.2.2.1; omega) e, f.2.2.2.2⟩
theorem Found.no {q : Nat → Bool} {lo hi i j h : Nat} (f : Found q lo hi i j) (m : Mono q lo hi) (h1 : i ≤ h) (h2 : h < j) (e : q h = false) : Found q lo hi i h :=
  ⟨f.1, h1, by have := f.2.2.1; omega, f.2.2.2.1, fun c c1 c2 => by
    cases hc : q c
    · rfl
    · have := m h c (by have := f.1; omega) c1 c2 hc
      rw [e] at this; cases this⟩

/-- One ahead in the order. -/
def lsB (x y : Nat) : Bool := decide (rank x < rank y)
theorem lsB_t {x y : Nat} (h : lsB x y = true) : rank x < rank y := by unfold lsB at h; simpa using h
theorem lsB_f {x y : Nat} (h : lsB x y = false) : rank y ≤ rank x := by unfold lsB at h; simpa using h
theorem lsB_nt {x y : Nat} (h : (!lsB x y) = true) : rank y ≤ rank x := by unfold lsB at h; simpa using h
theorem lsB_nf {x y : Nat} (h : (!lsB x y) = false) : rank x < rank y := by unfold lsB at h; simpa using h

/-- The first one put into the others. -/
theorem mono_first {f : Nat → Nat} {a b : Nat} (s : Srt f (a + 1) b) : Mono (fun h => lsB (f h) (f a)) (a + 1) b := fun c d h1 h2 h3 h4 => by
  have := lsB_t h4
  have := s c d h1 h2 h3
  unfold lsB; rw [decide_eq_true_iff]; omega
theorem merge_first {f : Nat → Nat} {a b i : Nat} (s : Srt f (a + 1) b) (h : Found (fun h => lsB (f h) (f a)) (a + 1) b i i) : Srt (rotF f a (a + 1) i) a b := by
  obtain ⟨h1, _, h2, h3, h4⟩ := h
  intro x y g1 g2 g3
  unfold rotF
  rw [if_neg (show ¬ x < a by omega), if_neg (show ¬ y < a by omega)]
  by_cases cx : x < a + (i - (a + 1))
  · rw [if_pos cx]
    by_cases cy : y < a + (i - (a + 1))
    · rw [if_pos cy]; exact s _ _ (by omega) (by omega) (by omega)
    · rw [if_neg cy]
      by_cases dy : y < i
      · rw [if_pos dy]
        have e := lsB_t (h3 (x + (a + 1 - a)) (by omega) (by omega))
        rw [show y - (i - (a + 1)) = a by omega]; omega
      · rw [if_neg dy]; exact s _ _ (by omega) (by omega) (by omega)
  · rw [if_neg cx, if_neg (show ¬ y < a + (i - (a + 1)) by omega)]
    by_cases dx : x < i
    · rw [if_pos dx]
      by_cases dy : y < i
      · rw [if_pos dy, show y - (i - (a + 1)) = x - (i - (a + 1)) by omega]; exact Nat.le_refl _
      · rw [if_neg dy, show x - (i - (a + 1)) = a by omega]
        exact lsB_f (h4 y (by omega) (by omega))
    · rw [if_neg dx, if_neg (show ¬ y < i by omega)]; exact s _ _ (by omega) (by omega) (by omega)
theorem step_first {zs ys : List Nat} {a k : Nat} (h : ∀ x, at0 ys x = rotF (at0 zs) a (a + 1) (k + 1) x) (h1 : a ≤ k) (h2 : k + 1 < ys.length) : ∀ x, at0 (swp ys k (k + 1)) x = rotF (at0 zs) a (a + 1) (k + 1 + 1) x := by
  intro x
  rw [swp_at (by omega) h2, h, h, h]
  unfold rotF
  repeat' split
  all_goals first | rfl | (exfalso; omega) | (congr 1; omega)

/-- The last one put into the others. -/
theorem mono_last {f : Nat → Nat} {a m : Nat} (s : Srt f a m) : Mono (fun h => !lsB (f m) (f h)) a m := fun c d h1 h2 h3 h4 => by
  have := lsB_nt h4
  have := s c d h1 h2 h3
  show (!decide _) = true
  rw [Bool.not_eq_true', decide_eq_false_iff_not]; omega
theorem merge_last {f : Nat → Nat} {a m i : Nat} (s : Srt f a m) (h : Found (fun h => !lsB (f m) (f h)) a m i i) : Srt (rotF f i m (m + 1)) a (m + 1) := by
  obtain ⟨h1, _, h2, h3, h4⟩ := h
  intro x y g1 g2 g3
  unfold rotF
  by_cases cx : x < i
  · rw [if_pos cx]
    by_cases cy : y < i
    · rw [if_pos cy]; exact s _ _ (by omega) (by omega) (by omega)
    · rw [if_neg cy]
      by_cases dy : y < i + (m + 1 - m)
      · rw [if_pos dy, show y + (m - i) = m by omega]
        exact lsB_nt (h3 x (by omega) cx)
      · rw [if_neg dy, if_pos (by omega)]; exact s _ _ (by omega) (by omega) (by omega)
  · rw [if_neg cx, if_neg (show ¬ y < i by omega)]
    by_cases dx : x < i + (m + 1 - m)
    · rw [if_pos dx, show x + (m - i) = m by omega]
      by_cases dy : y < i + (m + 1 - m)
      · rw [if_pos dy, show y + (m - i) = m by omega]; exact Nat.le_refl _
      · rw [if_neg dy, if_pos (by omega)]
        have := lsB_nf (h4 (y - (m + 1 - m)) (by omega) (by omega)); omega
    · rw [if_neg dx, if_pos (by omega), if_neg (by omega), if_pos (by omega)]; exact s _ _ (by omega) (by omega) (by omega)
theorem step_last {zs ys : List Nat} {m k : Nat} (h : ∀ x, at0 ys x = rotF (at0 zs) (k + 1) m (m + 1) x) (h1 : k + 1 ≤ m) (h2 : k + 1 < ys.length) : ∀ x, at0 (swp ys (k + 1) k) x = rotF (at0 zs) k m (m + 1) x := by
  intro x
  rw [swp_at h2 (by omega), h, h, h]
  unfold rotF
  repeat' split
  all_goals first | rfl | (exfalso; omega) | (congr 1; omega)

/-- The two rows cut against each other. -/
theorem mono_cut {f : Nat → Nat} {a m b p lo hi : Nat} (s : Srt f a m) (t : Srt f m b) (h1 : a ≤ lo) (h2 : hi ≤ m) (h3 : ∀ c, lo ≤ c → c < hi → c ≤ p ∧ m ≤ p - c ∧ p - c < b) : Mono (fun c => !lsB (f (p - c)) (f c)) lo hi := fun c d g1 g2 g3 g4 => by
  have := lsB_nt g4
  have e1 := s c d (by omega) g2 (by omega)
  have e2 := t (p - d) (p - c) (by have := h3 d (by omega) g3; omega) (by omega) (by have := h3 c g1 (by omega); omega)
  show (!decide _) = true
  rw [Bool.not_eq_true', decide_eq_false_iff_not]; omega

/-- What the cut gives: both halves are two rows in order, and nothing of the second stands ahead of one of the first. -/
theorem cut_ok {f : Nat → Nat} {a m b mid lo hi st en : Nat} (ham : a < m) (hmb : m < b) (hmid : mid = (a + b) / 2) (s : Srt f a m) (t : Srt f m b)
    (hlh : (mid < m ∧ lo = mid + m - b ∧ hi = mid) ∨ (m ≤ mid ∧ lo = a ∧ hi = m))
    (h : Found (fun c => !lsB (f (mid + m - 1 - c)) (f c)) lo hi st st) (he : en = mid + m - st) :
    a ≤ st ∧ st ≤ m ∧ m ≤ en ∧ en ≤ b ∧ st ≤ mid ∧ mid ≤ en ∧ Srt (rotF f st m en) a st ∧ Srt (rotF f st m en) st mid ∧ Srt (rotF f st m en) mid en ∧ Srt (rotF f st m en) en b ∧
      ∀ x y, a ≤ x → x < mid → mid ≤ y → y < b → rank (rotF f st m en x) ≤ rank (rotF f st m en y) := by
  obtain ⟨h1, _, h2, h3, h4⟩ := h
  have b1 : a ≤ st := by omega
  have b2 : st ≤ m := by omega
  have b3 : m ≤ en := by omega
  have b4 : en ≤ b := by omega
  have b5 : st ≤ mid := by omega
  have b6 : mid ≤ en := by omega
  have r1 : ∀ x, x < st → rotF f st m en x = f x := fun x hx => rotF_out f b2 b3 x (Or.inl hx)
  have r4 : ∀ x, en ≤ x → rotF f st m en x = f x := fun x hx => rotF_out f b2 b3 x (Or.inr hx)
  have r2 : ∀ x, st ≤ x → x < mid → rotF f st m en x = f (x + (m - st)) := fun x g1 g2 => by
    unfold rotF; rw [if_neg (by omega), if_pos (by omega)]
  have r3 : ∀ x, mid ≤ x → x < en → rotF f st m en x = f (x - (en - m)) := fun x g1 g2 => by
    unfold rotF; rw [if_neg (by omega), if_neg (by omega), if_pos g2]
  -- the four pieces against each other
  have k1 : ∀ x y, a ≤ x → x < st → en ≤ y → y < b → rank (f x) ≤ rank (f y) := fun x y g1 g2 g3 g4 => by
    have e1 : rank (f (st - 1)) ≤ rank (f (mid + m - 1 - (st - 1))) := lsB_nt (h3 (st - 1) (by omega) (by omega))
    have e2 := s x (st - 1) g1 (by omega) (by omega)
    have e3 := t (mid + m - 1 - (st - 1)) y (by omega) (by omega) g4
    omega
  have k2 : ∀ x y, m ≤ x → x < en → st ≤ y → y < m → rank (f x) ≤ rank (f y) := fun x y g1 g2 g3 g4 => by
    have e1 : rank (f (mid + m - 1 - st)) < rank (f st) := lsB_nf (h4 st (by omega) (by omega))
    have e2 := t x (mid + m - 1 - st) g1 (by omega) (by omega)
    have e3 := s st y b1 g3 g4
    omega
  refine ⟨b1, b2, b3, b4, b5, b6, ?_, ?_, ?_, ?_, ?_⟩
  · exact (s.part (Nat.le_refl _) b2).congr fun x _ g => r1 x g
  · intro x y g1 g2 g3
    rw [r2 x g1 (by omega), r2 y (by omega) g3]; exact t _ _ (by omega) (by omega) (by omega)
  · intro x y g1 g2 g3
    rw [r3 x g1 (by omega), r3 y (by omega) g3]; exact s _ _ (by omega) (by omega) (by omega)
  · exact (t.part b3 (Nat.le_refl _)).congr fun x g _ => r4 x g
  · intro x y g1 g2 g3 g4
    by_cases cx : x < st
    · rw [r1 x cx]
      by_cases cy : y < en
      · rw [r3 y g3 cy]; exact s _ _ g1 (by omega) (by omega)
      · rw [r4 y (by omega)]; exact k1 x y g1 cx (by omega) g4
    · rw [r2 x (by omega) g2]
      by_cases cy : y < en
      · rw [r3 y g3 cy]; exact k2 _ _ (by omega) (by omega) (by omega) (by omega)
      · rw [r4 y (by omega)]; exact t _ _ (by omega) (by omega) g4
/-- Both halves in order. -/
theorem halves {zs ys xs : List Nat} {a mid b : Nat} (h1 : a ≤ mid) (h2 : mid ≤ b) (g : Mix zs ys a mid) (k : Mix ys xs mid b) (s : Srt (at0 ys) a mid) (t : Srt (at0 xs) mid b)
    (o : ∀ x y, a ≤ x → x < mid → mid ≤ y → y < b → rank (at0 zs x) ≤ rank (at0 zs y)) : Mix zs xs a b ∧ Srt (at0 xs) a b := by
  refine ⟨(g.wide (Nat.le_refl _) h2).trans (k.wide h1 (Nat.le_refl _)), Srt.join (s.congr fun x g1 g2 => k.out x (by omega)) t fun x y g1 g2 g3 g4 => ?_⟩
  rw [k.out x (by omega)]
  obtain ⟨x', x1, x2, ex⟩ := g.ins x g1 g2
  obtain ⟨y', y1, y2, ey⟩ := k.ins y g3 g4
  rw [ex, ey, g.out y' (by omega)]
  exact o x' y' x1 x2 y1 y2

/-- Put into its place from behind: all but the one at j are in order. -/
def But (f : Nat → Nat) (a i j : Nat) : Prop := ∀ x y, a ≤ x → x < y → y ≤ i → y ≠ j → rank (f x) ≤ rank (f y)
theorem But.start {f : Nat → Nat} {a i : Nat} (h : Srt f a i) : But f a i i := fun x y h1 h2 h3 h4 => h x y h1 (by omega) (by omega)
theorem But.first {f : Nat → Nat} {a i : Nat} (h : But f a i a) : Srt f a (i + 1) := fun x y h1 h2 h3 => by
  by_cases c : x = y
  · subst c; exact Nat.le_refl _
  · exact h x y h1 (by omega) (by omega) (by omega)
theorem But.stop {f : Nat → Nat} {a i j : Nat} (h : But f a i j) (hj : a < j) (hl : lsB (f j) (f (j - 1)) = false) : Srt f a (i + 1) := fun x y h1 h2 h3 => by
  by_cases c : x = y
  · subst c; exact Nat.le_refl _
  · by_cases d : y = j
    · subst d
      have := lsB_f hl
      by_cases e : x = y - 1
      · subst e; exact this
      · have := h x (y - 1) h1 (by omega) (by omega) (by omega); omega
    · exact h x y h1 (by omega) (by omega) d
theorem But.step {zs : List Nat} {a i j : Nat} (h : But (at0 zs) a i j) (hj : a < j) (hi : j ≤ i) (hn : i < zs.length) (hl : lsB (at0 zs j) (at0 zs (j - 1)) = true) : But (at0 (swp zs j (j - 1))) a i (j - 1) := fun x y h1 h2 h3 h4 => by
  have l := lsB_t hl
  rw [swp_at (by omega) (by omega), swp_at (by omega) (by omega), if_neg h4]
  by_cases cy : y = j
  · rw [if_pos cy]
    by_cases cx : x = j - 1
    · rw [if_pos cx]; omega
    · rw [if_neg cx, if_neg (by omega)]; exact h x (j - 1) h1 (by omega) (by omega) (by omega)
  · rw [if_neg cy]
    by_cases cx : x = j - 1
    · rw [if_pos cx]; exact h j y (by omega) (by omega) h3 cy
    · rw [if_neg cx]
      by_cases dx : x = j
      · rw [if_pos dx]; exact h (j - 1) y (by omega) (by omega) h3 cy
      · rw [if_neg dx]; exact h x y h1 h2 h3 cy
end Go.Proofs.Ytmagldelgnkkfaa
