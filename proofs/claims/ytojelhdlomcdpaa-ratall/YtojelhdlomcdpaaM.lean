/-
  Plain facts on fractions: the sign of a difference, the least form, what lies between and behind; no program is named here.
-/
import Derived.KernelRfl
namespace Go.Proofs.Ytojelhdlomcdpaa

def rightB (n d : Int) : Bool := decide (1 ≤ d ∧ d ≤ 1024 ∧ -1048576 ≤ n ∧ n ≤ 1048576)
theorem right_iff (n d : Int) : rightB n d = true ↔ 1 ≤ d ∧ d ≤ 1024 ∧ -1048576 ≤ n ∧ n ≤ 1048576 := by simp [rightB]
theorem right_no (n d : Int) : rightB n d = false ↔ ¬ (1 ≤ d ∧ d ≤ 1024 ∧ -1048576 ≤ n ∧ n ≤ 1048576) := by simp [rightB]
def sgn (x y : Int) : Int := if x < y then -1 else if y < x then 1 else 0
theorem sgn_lt {x y : Int} (h : x < y) : sgn x y = -1 := by simp [sgn, h]
theorem sgn_gt {x y : Int} (h : y < x) : sgn x y = 1 := by unfold sgn; rw [if_neg (by omega), if_pos h]
theorem sgn_eq {x y : Int} (h : x = y) : sgn x y = 0 := by unfold sgn; rw [if_neg (by omega), if_neg (by omega)]
theorem sgn_cases (x y : Int) : (x < y ∧ sgn x y = -1) ∨ (x = y ∧ sgn x y = 0) ∨ (y < x ∧ sgn x y = 1) := by
  unfold sgn; split
  · exact Or.inl ⟨by omega, rfl⟩
  · split
    · exact Or.inr (Or.inr ⟨by omega, rfl⟩)
    · exact Or.inr (Or.inl ⟨by omega, rfl⟩)
theorem sgn_mul {x y g : Int} (h : 1 ≤ g) : sgn (x * g) (y * g) = sgn x y := by
  rcases sgn_cases x y with ⟨a, b⟩ | ⟨a, b⟩ | ⟨a, b⟩
  · rw [b]; exact sgn_lt (Int.mul_lt_mul_of_pos_right a (by omega))
  · rw [b]; exact sgn_eq (by rw [a])
  · rw [b]; exact sgn_gt (Int.mul_lt_mul_of_pos_right a (by omega))
theorem sgn_neg (x y : Int) : sgn x y = - sgn y x := by
  rcases sgn_cases x y with ⟨a, b⟩ | ⟨a, b⟩ | ⟨a, b⟩
  · rw [b, sgn_gt a]
  · rw [b, sgn_eq a.symm]; rfl
  · rw [b, sgn_lt a]; rfl

theorem prod_bd {n d : Int} (h1 : -1048576 ≤ n) (h2 : n ≤ 1048576) (h3 : 1 ≤ d) (h4 : d ≤ 1024) : -1073741824 ≤ n * d ∧ n * d ≤ 1073741824 := by
  have a := Int.mul_le_mul_of_nonneg_right h1 (show 0 ≤ d by omega)
  have b := Int.mul_le_mul_of_nonneg_right h2 (show 0 ≤ d by omega)
  omega
def cmpI (n d m c : Int) : Int := if rightB n d = true ∧ rightB m c = true then sgn (n * c) (m * d) else 0
theorem cmpI_right {n d m c : Int} (h1 : rightB n d = true) (h2 : rightB m c = true) : cmpI n d m c = sgn (n * c) (m * d) := by simp [cmpI, h1, h2]
theorem cmpI_no1 {n d m c : Int} (h1 : rightB n d = false) : cmpI n d m c = 0 := by simp [cmpI, h1]
theorem cmpI_no2 {n d m c : Int} (h1 : rightB m c = false) : cmpI n d m c = 0 := by simp [cmpI, h1]

/- the greatest that divides both, and the least form -/
def gI (n d : Int) : Int := (Int.gcd n d : Int)
def lN (n d : Int) : Int := n / gI n d
def lD (n d : Int) : Int := d / gI n d
theorem g_step (a b : Int) : gI (b % a) a = gI a b := by
  unfold gI
  have h : Int.gcd b a = Int.gcd (b % a) a := by
    have e : a * (b / a) + b % a = b := Int.mul_ediv_add_emod b a
    have := Int.gcd_mul_left_add_left a (b % a) (b / a)
    rw [e] at this; exact this
  rw [← h, Int.gcd_comm]
theorem g_zero (b : Int) (h : 0 ≤ b) : gI 0 b = b := by unfold gI; rw [Int.gcd_zero_left]; omega
theorem g_pos {n d : Int} (h : 1 ≤ d) : 1 ≤ gI n d := by
  unfold gI
  have : 0 < Int.gcd n d := Int.gcd_pos_of_ne_zero_right n (by omega)
  omega
theorem g_dvd_l (n d : Int) : gI n d ∣ n := Int.gcd_dvd_left ..
theorem g_dvd_r (n d : Int) : gI n d ∣ d := Int.gcd_dvd_right ..
theorem g_abs (n d : Int) : gI (if n < 0 then -n else n) d = gI n d := by
  unfold gI; split
  · rw [Int.neg_gcd]
  · rfl
theorem lN_mul (n d : Int) : lN n d * gI n d = n := Int.ediv_mul_cancel (g_dvd_l n d)
theorem lD_mul (n d : Int) : lD n d * gI n d = d := Int.ediv_mul_cancel (g_dvd_r n d)
theorem lN_tdiv (n d : Int) : n.tdiv (gI n d) = lN n d := Int.tdiv_eq_ediv_of_dvd (g_dvd_l n d)
theorem lD_tdiv (n d : Int) : d.tdiv (gI n d) = lD n d := Int.tdiv_eq_ediv_of_dvd (g_dvd_r n d)
theorem lD_pos {n d : Int} (h : 1 ≤ d) : 1 ≤ lD n d := by
  have a := lD_mul n d
  have b := g_pos (n := n) h
  apply Int.not_lt.1
  intro hc
  have := Int.mul_le_mul_of_nonneg_right (show lD n d ≤ 0 by omega) (show 0 ≤ gI n d by omega)
  omega
theorem lD_le {n d : Int} (h : 1 ≤ d) : lD n d ≤ d := by
  have a := lD_mul n d
  have b := g_pos (n := n) h
  have c := lD_pos (n := n) h
  have := Int.mul_le_mul_of_nonneg_left b (show 0 ≤ lD n d by omega)
  omega
theorem lN_bd {n d B : Int} (h : 1 ≤ d) (_hB : 0 ≤ B) (h1 : -B ≤ n) (h2 : n ≤ B) : -B ≤ lN n d ∧ lN n d ≤ B := by
  have a := lN_mul n d
  have b := g_pos (n := n) h
  by_cases hs : 0 ≤ lN n d
  · have := Int.mul_le_mul_of_nonneg_left b hs; omega
  · have := Int.mul_le_mul_of_nonneg_left b (show 0 ≤ - lN n d by omega)
    simp only [Int.neg_mul, Int.mul_one] at this; omega
theorem least_right {n d : Int} (h : rightB n d = true) : rightB (lN n d) (lD n d) = true := by
  obtain ⟨a1, a2, a3, a4⟩ := (right_iff _ _).1 h
  have b := lN_bd (B := 1048576) a1 (by omega) a3 a4
  have c := lD_le (n := n) a1
  exact (right_iff _ _).2 ⟨lD_pos a1, by omega, b.1, b.2⟩
theorem least_same {n d : Int} (h : rightB n d = true) : cmpI (lN n d) (lD n d) n d = 0 := by
  rw [cmpI_right (least_right h) h]
  apply sgn_eq
  have a := lN_mul n d
  have b := lD_mul n d
  calc lN n d * d = lN n d * (lD n d * gI n d) := by rw [b]
    _ = lN n d * gI n d * lD n d := by rw [Int.mul_comm (lD n d), Int.mul_assoc]
    _ = n * lD n d := by rw [a]
theorem coprime {n d : Int} (h : 1 ≤ d) : Int.gcd (lN n d) (lD n d) = 1 := by
  have a := lN_mul n d
  have b := lD_mul n d
  have e : gI n d = gI (lN n d * gI n d) (lD n d * gI n d) := by rw [a, b]
  have p := g_pos (n := n) h
  unfold gI at e
  rw [Int.gcd_mul_right, Int.natAbs_natCast] at e
  have e2 : Int.gcd n d = Int.gcd (lN n d) (lD n d) * Int.gcd n d := by exact_mod_cast e
  have pos : 0 < Int.gcd n d := by unfold gI at p; omega
  have : 1 * Int.gcd n d = Int.gcd (lN n d) (lD n d) * Int.gcd n d := by omega
  exact (Nat.eq_of_mul_eq_mul_right pos this).symm
theorem dvd_cop {q p s : Int} (c : Int.gcd p q = 1) (h : q ∣ p * s) : q ∣ s := by
  have h2 : q ∣ s * p := by rw [Int.mul_comm]; exact h
  have := Int.dvd_mul_gcd_iff_dvd_mul.2 h2
  rw [Int.gcd_comm, c] at this; simpa using this
theorem uniq {p q r s : Int} (hq : 1 ≤ q) (hs : 1 ≤ s) (c1 : Int.gcd p q = 1) (c2 : Int.gcd r s = 1) (h : p * s = r * q) : p = r ∧ q = s := by
  have d1 : q ∣ s := by
    have : q ∣ p * s := ⟨r, by rw [h, Int.mul_comm]⟩
    exact dvd_cop c1 this
  have d2 : s ∣ q := by
    have : s ∣ r * q := ⟨p, by rw [← h, Int.mul_comm]⟩
    exact dvd_cop c2 this
  have e : q = s := Int.dvd_antisymm (by omega) (by omega) d1 d2
  subst e
  exact ⟨Int.eq_of_mul_eq_mul_right (by omega) h, rfl⟩
theorem least_iff {n d m c : Int} (h1 : 1 ≤ d) (h2 : 1 ≤ c) : n * c = m * d ↔ lN n d = lN m c ∧ lD n d = lD m c := by
  have a1 := lN_mul n d
  have b1 := lD_mul n d
  have a2 := lN_mul m c
  have b2 := lD_mul m c
  have g1 := g_pos (n := n) h1
  have g2 := g_pos (n := m) h2
  constructor
  · intro h
    apply uniq (lD_pos h1) (lD_pos h2) (coprime h1) (coprime h2)
    have e : lN n d * lD m c * (gI n d * gI m c) = lN m c * lD n d * (gI n d * gI m c) := by
      calc lN n d * lD m c * (gI n d * gI m c) = (lN n d * gI n d) * (lD m c * gI m c) := by ac_rfl
        _ = n * c := by rw [a1, b2]
        _ = m * d := h
        _ = (lN m c * gI m c) * (lD n d * gI n d) := by rw [a2, b1]
        _ = lN m c * lD n d * (gI n d * gI m c) := by ac_rfl
    have pp : gI n d * gI m c ≠ 0 := Int.mul_ne_zero (by omega) (by omega)
    exact Int.eq_of_mul_eq_mul_right pp e
  · rintro ⟨e1, e2⟩
    calc n * c = (lN n d * gI n d) * (lD m c * gI m c) := by rw [a1, b2]
      _ = (lN m c * gI m c) * (lD n d * gI n d) := by rw [e1, e2]; ac_rfl
      _ = m * d := by rw [a2, b1]
theorem lN_times {n d t : Int} (h : 1 ≤ d) (ht : 1 ≤ t) : lN (n * t) (d * t) = lN n d ∧ lD (n * t) (d * t) = lD n d := by
  have hd : 1 ≤ d * t := by have := Int.mul_le_mul_of_nonneg_left ht (show 0 ≤ d by omega); omega
  exact (least_iff hd h).1 (by ac_rfl)
end Go.Proofs.Ytojelhdlomcdpaa
