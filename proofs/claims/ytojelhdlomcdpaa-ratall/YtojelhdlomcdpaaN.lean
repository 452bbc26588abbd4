/-
  The walks of the document's own answers for layer 1: Right, Cmp, Least, After, Max.
-/
import Derived.Test.YtojelhdlomcdpaaD
namespace Go.Proofs.Ytojelhdlomcdpaa
open Go.RowKit

set_option maxHeartbeats 400000 in
theorem refRight_any (n d : Int) (w : World) :
    Calls Try.prog 14 #[.agg #[.int .i64 n, .int .i64 d]] w fun e w' => e = .returned (.bool (rightB n d)) ∧ Below w.heap.size w w' := by
  by_cases h1 : 1 ≤ d
  · by_cases h2 : d ≤ 1024
    · by_cases h3 : -1048576 ≤ n
      · by_cases h4 : n ≤ 1048576
        · go_enter Try.func14, Try.ntmps14
          go_wp2
          go_ret
          exact ⟨ret_bool (by symm; exact (right_iff _ _).2 ⟨h1, h2, h3, h4⟩), (Below.refl _ _).alloc (Nat.le_refl _) _⟩
        · go_enter Try.func14, Try.ntmps14
          go_wp2
          go_ret
          exact ⟨ret_bool (by symm; exact (right_no _ _).2 (by omega)), (Below.refl _ _).alloc (Nat.le_refl _) _⟩
      · go_enter Try.func14, Try.ntmps14
        go_wp2
        go_ret
        exact ⟨ret_bool (by symm; exact (right_no _ _).2 (by omega)), (Below.refl _ _).alloc (Nat.le_refl _) _⟩
    · go_enter Try.func14, Try.ntmps14
      go_wp2
      go_ret
      exact ⟨ret_bool (by symm; exact (right_no _ _).2 (by omega)), (Below.refl _ _).alloc (Nat.le_refl _) _⟩
  · go_enter Try.func14, Try.ntmps14
    go_wp2
    go_ret
    exact ⟨ret_bool (by symm; exact (right_no _ _).2 (by omega)), (Below.refl _ _).alloc (Nat.le_refl _) _⟩

set_option maxHeartbeats 800000 in
theorem refCmp_any (n d m c : Int) (w : World) :
    Calls Try.prog 16 #[.agg #[.int .i64 n, .int .i64 d], .agg #[.int .i64 m, .int .i64 c]] w fun e w' => e = .returned (.int .i64 (cmpI n d m c)) ∧ Below w.heap.size w w' := by
  cases h1 : rightB n d
  · go_enter Try.func16, Try.ntmps16
    go_wp2_with (go_at_call 14; refine (refRight_any _ _ _).mono ?_; rintro e w1 ⟨rfl, hb⟩; obtain ⟨c0, d0, f0, g0, z0⟩ := keep2 hb w.heap.size (.int .i64 n) (.int .i64 d) (by first | omega | (simp; done) | (simp; omega)) (by go_simp) (by go_simp) (by go_simp) (by go_simp); obtain ⟨c1, d1, f1, g1, z1⟩ := keep2 hb (w.heap.size + 1) (.int .i64 m) (.int .i64 c) (by first | omega | (simp; done) | (simp; omega)) (by go_simp) (by go_simp) (by go_simp) (by go_simp))
    go_ret
    refine ⟨ret_int (cmpI_no1 h1).symm, ?_⟩
    repeat (first | exact Below.refl _ _ | with_reducible refine bs ?_ (by dsimp only; omega) | with_reducible refine bd ?_ | with_reducible refine ba ?_ | with_reducible refine bt ?_ (by assumption))
  · cases h2 : rightB m c
    · go_enter Try.func16, Try.ntmps16
      go_wp2_with (go_at_call 14; refine (refRight_any _ _ _).mono ?_; rintro e w1 ⟨rfl, hb⟩; obtain ⟨c0, d0, f0, g0, z0⟩ := keep2 hb w.heap.size (.int .i64 n) (.int .i64 d) (by first | omega | (simp; done) | (simp; omega)) (by go_simp) (by go_simp) (by go_simp) (by go_simp); obtain ⟨c1, d1, f1, g1, z1⟩ := keep2 hb (w.heap.size + 1) (.int .i64 m) (.int .i64 c) (by first | omega | (simp; done) | (simp; omega)) (by go_simp) (by go_simp) (by go_simp) (by go_simp))
      go_ret
      refine ⟨ret_int (cmpI_no2 h2).symm, ?_⟩
      repeat (first | exact Below.refl _ _ | with_reducible refine bs ?_ (by dsimp only; omega) | with_reducible refine bd ?_ | with_reducible refine ba ?_ | with_reducible refine bt ?_ (by assumption))
    · obtain ⟨x1, x2, x3, x4⟩ := (right_iff _ _).1 h1
      obtain ⟨y1, y2, y3, y4⟩ := (right_iff _ _).1 h2
      have p1 := prod_bd x3 x4 y1 y2
      have p2 := prod_bd y3 y4 x1 x2
      have e := cmpI_right h1 h2
      have E : Hid (cmpI n d m c = sgn (n * c) (m * d)) := e
      clear e
      by_cases q1 : n * c - m * d < 0
      · go_enter Try.func16, Try.ntmps16
        go_wp2_with (go_at_call 14; refine (refRight_any _ _ _).mono ?_; rintro e w1 ⟨rfl, hb⟩; obtain ⟨c0, d0, f0, g0, z0⟩ := keep2 hb w.heap.size (.int .i64 n) (.int .i64 d) (by first | omega | (simp; done) | (simp; omega)) (by go_simp) (by go_simp) (by go_simp) (by go_simp); obtain ⟨c1, d1, f1, g1, z1⟩ := keep2 hb (w.heap.size + 1) (.int .i64 m) (.int .i64 c) (by first | omega | (simp; done) | (simp; omega)) (by go_simp) (by go_simp) (by go_simp) (by go_simp))
        go_ret
        refine ⟨ret_int (E.out.trans (sgn_lt (by omega))).symm, ?_⟩
        repeat (first | exact Below.refl _ _ | with_reducible refine bs ?_ (by dsimp only; omega) | with_reducible refine bd ?_ | with_reducible refine ba ?_ | with_reducible refine bt ?_ (by assumption))
      · by_cases q2 : 0 < n * c - m * d
        · go_enter Try.func16, Try.ntmps16
          go_wp2_with (go_at_call 14; refine (refRight_any _ _ _).mono ?_; rintro e w1 ⟨rfl, hb⟩; obtain ⟨c0, d0, f0, g0, z0⟩ := keep2 hb w.heap.size (.int .i64 n) (.int .i64 d) (by first | omega | (simp; done) | (simp; omega)) (by go_simp) (by go_simp) (by go_simp) (by go_simp); obtain ⟨c1, d1, f1, g1, z1⟩ := keep2 hb (w.heap.size + 1) (.int .i64 m) (.int .i64 c) (by first | omega | (simp; done) | (simp; omega)) (by go_simp) (by go_simp) (by go_simp) (by go_simp))
          go_ret
          refine ⟨ret_int (E.out.trans (sgn_gt (by omega))).symm, ?_⟩
          repeat (first | exact Below.refl _ _ | with_reducible refine bs ?_ (by dsimp only; omega) | with_reducible refine bd ?_ | with_reducible refine ba ?_ | with_reducible refine bt ?_ (by assumption))
        · go_enter Try.func16, Try.ntmps16
          go_wp2_with (go_at_call 14; refine (refRight_any _ _ _).mono ?_; rintro e w1 ⟨rfl, hb⟩; obtain ⟨c0, d0, f0, g0, z0⟩ := keep2 hb w.heap.size (.int .i64 n) (.int .i64 d) (by first | omega | (simp; done) | (simp; omega)) (by go_simp) (by go_simp) (by go_simp) (by go_simp); obtain ⟨c1, d1, f1, g1, z1⟩ := keep2 hb (w.heap.size + 1) (.int .i64 m) (.int .i64 c) (by first | omega | (simp; done) | (simp; omega)) (by go_simp) (by go_simp) (by go_simp) (by go_simp))
          go_ret
          refine ⟨ret_int (E.out.trans (sgn_eq (by omega))).symm, ?_⟩
          repeat (first | exact Below.refl _ _ | with_reducible refine bs ?_ (by dsimp only; omega) | with_reducible refine bd ?_ | with_reducible refine ba ?_ | with_reducible refine bt ?_ (by assumption))

theorem dvd_times {n d x : Int} (hd : 1 ≤ d) : d ∣ n * x ↔ lD n d ∣ x := by
  have a := lN_mul n d
  have b := lD_mul n d
  have g := g_pos (n := n) hd
  constructor
  · rintro ⟨q, hq⟩
    have e : lN n d * x * gI n d = lD n d * q * gI n d := by
      calc lN n d * x * gI n d = (lN n d * gI n d) * x := by ac_rfl
        _ = n * x := by rw [a]
        _ = d * q := hq
        _ = (lD n d * gI n d) * q := by rw [b]
        _ = lD n d * q * gI n d := by ac_rfl
    have e2 := Int.eq_of_mul_eq_mul_right (by omega) e
    exact dvd_cop (coprime hd) ⟨q, e2⟩
  · rintro ⟨q, hq⟩
    refine ⟨lN n d * q, ?_⟩
    calc n * x = (lN n d * gI n d) * (lD n d * q) := by rw [a, ← hq]
      _ = (lD n d * gI n d) * (lN n d * q) := by ac_rfl
      _ = d * (lN n d * q) := by rw [b]
theorem least_at {n d x : Int} (hd : 1 ≤ d) (h1 : 1 ≤ x) (hz : (n * x).tmod d = 0) (hx : ∀ y, 1 ≤ y → y < x → ¬ d ∣ n * y) : x = lD n d ∧ (n * x).tdiv d = lN n d := by
  have dv : d ∣ n * x := Int.dvd_of_tmod_eq_zero hz
  have l1 := (dvd_times hd).1 dv
  have p := lD_pos (n := n) hd
  have le : lD n d ≤ x := Int.le_of_dvd (by omega) l1
  have ge : x ≤ lD n d := by
    apply Int.not_lt.1
    intro hc
    exact hx _ p hc ((dvd_times hd).2 ⟨1, by omega⟩)
  have e : x = lD n d := by omega
  refine ⟨e, ?_⟩
  rw [Int.tdiv_eq_ediv_of_dvd dv, e]
  have a := lN_mul n d
  have b := lD_mul n d
  have : n * lD n d = d * lN n d := by
    calc n * lD n d = (lN n d * gI n d) * lD n d := by rw [a]
      _ = (lD n d * gI n d) * lN n d := by ac_rfl
      _ = d * lN n d := by rw [b]
  rw [this, Int.mul_ediv_cancel_left _ (by omega)]
theorem least_end {n d : Int} (hd : 1 ≤ d) (hx : ∀ y, 1 ≤ y → y < d → ¬ d ∣ n * y) : lN n d = n ∧ lD n d = d := by
  have p := lD_pos (n := n) hd
  have l := lD_le (n := n) hd
  have e : lD n d = d := by
    apply Int.le_antisymm l
    apply Int.not_lt.1
    intro hc
    exact hx _ p hc ((dvd_times hd).2 ⟨1, by omega⟩)
  refine ⟨?_, e⟩
  have b := lD_mul n d
  have g : gI n d = 1 := by
    have : d * gI n d = d * 1 := by rw [e] at b; omega
    exact Int.eq_of_mul_eq_mul_left (by omega) this
  have a := lN_mul n d
  rw [g] at a; omega

set_option maxHeartbeats 800000 in
theorem refLeast_no (n d : Int) (w : World) (h : rightB n d = false) :
    Calls Try.prog 18 #[.agg #[.int .i64 n, .int .i64 d]] w fun e w' => e = .returned (.agg #[.int .i64 n, .int .i64 d]) ∧ Below w.heap.size w w' := by
  go_enter Try.func18, Try.ntmps18
  go_wp2_with (go_at_call 14; refine (refRight_any _ _ _).mono ?_; rintro e w1 ⟨rfl, hb⟩; obtain ⟨c0, d0, f0, g0, z0⟩ := keep2 hb w.heap.size (.int .i64 n) (.int .i64 d) (by first | omega | (simp; done) | (simp; omega)) (by go_simp) (by go_simp) (by go_simp) (by go_simp); obtain ⟨c1, d1, f1, g1, z1⟩ := keep2 hb (w.heap.size + 1) (.int .i64 0) (.int .i64 0) (by first | omega | (simp; done) | (simp; omega)) (by go_simp) (by go_simp) (by go_simp) (by go_simp))
  refine bodyPost_ret (v := .agg #[.int .i64 n, .int .i64 d]) (by simp [results, Try.results18, go_sem, c1, d1]) rfl ⟨rfl, ?_⟩
  repeat (first | exact Below.refl _ _ | with_reducible refine bs ?_ (by dsimp only; omega) | with_reducible refine bd ?_ | with_reducible refine ba ?_ | with_reducible refine bt ?_ (by assumption))

set_option maxHeartbeats 1600000 in
theorem refLeast_yes (n d : Int) (w : World) (h : rightB n d = true) :
    Calls Try.prog 18 #[.agg #[.int .i64 n, .int .i64 d]] w fun e w' => e = .returned (.agg #[.int .i64 (lN n d), .int .i64 (lD n d)]) ∧ Below w.heap.size w w' := by
  obtain ⟨x1, x2, x3, x4⟩ := (right_iff _ _).1 h
  go_enter Try.func18, Try.ntmps18
  go_wp2_with (go_at_call 14; refine (refRight_any _ _ _).mono ?_; rintro e w1 ⟨rfl, hb⟩; obtain ⟨c0, d0, f0, g0, z0⟩ := keep2 hb w.heap.size (.int .i64 n) (.int .i64 d) (by first | omega | (simp; done) | (simp; omega)) (by go_simp) (by go_simp) (by go_simp) (by go_simp); obtain ⟨c1, d1, f1, g1, z1⟩ := keep2 hb (w.heap.size + 1) (.int .i64 0) (.int .i64 0) (by first | omega | (simp; done) | (simp; omega)) (by go_simp) (by go_simp) (by go_simp) (by go_simp))
  go_loop [3] (fun s => ∃ x : Int, 1 ≤ x ∧ x ≤ d ∧ Hid (∀ y, 1 ≤ y → y < x → ¬ d ∣ n * y) ∧ s = .int .i64 x) (fun s => (d - intOf s).toNat)
  case atStart => exact ⟨1, by omega, by omega, fun y a b => by omega, rfl⟩
  case round =>
    obtain ⟨x, r1, r2, hx, rfl⟩ := hrel
    have p1 := prod_bd (n := n) (d := x) x3 x4 r1 (by omega)
    by_cases hlt : x < d
    · by_cases hz : (n * x).tmod d = 0
      · obtain ⟨q1, q2⟩ := least_at x1 r1 hz hx.out
        obtain ⟨l1, l2⟩ := lN_bd (B := 1048576) x1 (by omega) x3 x4
        have hzb : ((n * x).tmod d == 0) = true := by rw [hz]; rfl
        have Q1 : Hid (x = lD n d) := q1
        clear q1
        go_wp2
        refine bodyPost_ret (v := .agg #[.int .i64 (lN n d), .int .i64 x]) (by simp [results, Try.results18, go_sem, c1, d1]) rfl ⟨by rw [Q1.out], ?_⟩
        repeat (first | exact Below.refl _ _ | with_reducible refine bs ?_ (by dsimp only; omega) | with_reducible refine bd ?_ | with_reducible refine ba ?_ | with_reducible refine bt ?_ (by assumption))
      · have hzb : ((n * x).tmod d == 0) = false := by simpa using hz
        go_wp2
        go_round
        case rel =>
          refine ⟨x + 1, by omega, by omega, ?_, rfl⟩
          intro y a b
          by_cases e : y = x
          · rw [e]; exact fun hd => hz (Int.tmod_eq_zero_of_dvd hd)
          · exact hx.out y a (by omega)
        case measure => simp [intOf]; omega
    · have e : x = d := by omega
      subst e
      obtain ⟨q1, q2⟩ := least_end x1 hx.out
      go_wp2
      refine bodyPost_ret (v := .agg #[.int .i64 n, .int .i64 x]) (by simp [results, Try.results18, go_sem, c1, d1]) rfl ⟨rfl, ?_⟩
      repeat (first | exact Below.refl _ _ | with_reducible refine bs ?_ (by dsimp only; omega) | with_reducible refine bd ?_ | with_reducible refine ba ?_ | with_reducible refine bt ?_ (by assumption))

theorem aft_start {n d : Int} (hd : 1 ≤ d) : aftI n d ≤ n.tdiv d + 2 ∧ n.tdiv d + 2 ≤ aftI n d + 2 := by
  by_cases h : 0 ≤ n.tmod d
  · have := aft_hi h hd; omega
  · have := aft_lo (Int.not_le.1 h) hd; omega
theorem aft_go {n d x : Int} (hd : 1 ≤ d) (h : n < (x - 1) * d) : aftI n d ≤ x - 1 := by
  unfold aftI
  have := Int.ediv_lt_of_lt_mul (show 0 < d by omega) h
  omega
theorem aft_stop {n d x : Int} (hd : 1 ≤ d) (h : (x - 1) * d ≤ n) : x ≤ aftI n d := by
  unfold aftI
  have := (Int.le_ediv_iff_mul_le (show 0 < d by omega)).2 h
  omega
theorem aft_range {n d : Int} (hd : 1 ≤ d) (h1 : -1048576 ≤ n) (h2 : n ≤ 1048576) : -1048576 ≤ aftI n d ∧ aftI n d ≤ 1048577 := by
  have b := aft_bd hd h1 h2
  by_cases h : 0 ≤ n.tmod d
  · have := aft_hi h hd; omega
  · have := aft_lo (Int.not_le.1 h) hd; omega

set_option maxHeartbeats 800000 in
theorem refAfter_no (n d : Int) (w : World) (h : rightB n d = false) :
    Calls Try.prog 12 #[.agg #[.int .i64 n, .int .i64 d]] w fun e w' => e = .returned (.tuple #[.agg #[.int .i64 0, .int .i64 0], .bool false]) ∧ Below w.heap.size w w' := by
  go_enter Try.func12, Try.ntmps12
  go_wp2_with (go_at_call 14; refine (refRight_any _ _ _).mono ?_; rintro e w1 ⟨rfl, hb⟩; obtain ⟨c0, d0, f0, g0, z0⟩ := keep2 hb w.heap.size (.int .i64 n) (.int .i64 d) (by first | omega | (simp; done) | (simp; omega)) (by go_simp) (by go_simp) (by go_simp) (by go_simp); obtain ⟨c1, d1, f1, g1, z1⟩ := keep2 hb (w.heap.size + 1) (.int .i64 0) (.int .i64 0) (by first | omega | (simp; done) | (simp; omega)) (by go_simp) (by go_simp) (by go_simp) (by go_simp))
  refine bodyPost_ret (v := .tuple #[.agg #[.int .i64 0, .int .i64 0], .bool false]) (by simp [results, Try.results12, go_sem, c1, d1]) rfl ⟨rfl, ?_⟩
  repeat (first | exact Below.refl _ _ | with_reducible refine bs ?_ (by dsimp only; omega) | with_reducible refine bd ?_ | with_reducible refine ba ?_ | with_reducible refine bt ?_ (by assumption))

set_option maxHeartbeats 1600000 in
theorem refAfter_yes (n d : Int) (w : World) (h : rightB n d = true) (hr : rightB (aftI n d) 1 = true) :
    Calls Try.prog 12 #[.agg #[.int .i64 n, .int .i64 d]] w fun e w' => e = .returned (.tuple #[.agg #[.int .i64 (aftI n d), .int .i64 1], .bool true]) ∧ Below w.heap.size w w' := by
  obtain ⟨x1, x2, x3, x4⟩ := (right_iff _ _).1 h
  obtain ⟨b1, b2⟩ := aft_bd x1 x3 x4
  obtain ⟨b3, b4⟩ := aft_range x1 x3 x4
  obtain ⟨b5, b6⟩ := aft_start (n := n) x1
  go_enter Try.func12, Try.ntmps12
  go_wp2_with (go_at_call 14; refine (refRight_any _ _ _).mono ?_; rintro e w1 ⟨rfl, hb⟩; obtain ⟨c0, d0, f0, g0, z0⟩ := keep2 hb w.heap.size (.int .i64 n) (.int .i64 d) (by first | omega | (simp; done) | (simp; omega)) (by go_simp) (by go_simp) (by go_simp) (by go_simp); obtain ⟨c1, d1, f1, g1, z1⟩ := keep2 hb (w.heap.size + 1) (.int .i64 0) (.int .i64 0) (by first | omega | (simp; done) | (simp; omega)) (by go_simp) (by go_simp) (by go_simp) (by go_simp))
  go_loop [4] (fun s => ∃ x : Int, aftI n d ≤ x ∧ x ≤ aftI n d + 2 ∧ s = .int .i64 x) (fun s => (intOf s - aftI n d).toNat)
  case atStart => exact ⟨n.tdiv d + 2, by omega, by omega, rfl⟩
  case round =>
    obtain ⟨x, r1, r2, rfl⟩ := hrel
    have p1 := Int.mul_le_mul_of_nonneg_right (show -1048577 ≤ x - 1 by omega) (show 0 ≤ d by omega)
    have p2 := Int.mul_le_mul_of_nonneg_right (show x - 1 ≤ 1048578 by omega) (show 0 ≤ d by omega)
    have p3 : -1073742848 ≤ (x - 1) * d := by omega
    have p4 : (x - 1) * d ≤ 1073743872 := by omega
    clear p1 p2
    by_cases hlt : n < (x - 1) * d
    · have g := aft_go x1 hlt
      go_wp2
      go_round
      case rel => exact ⟨x - 1, by omega, by omega, rfl⟩
      case measure => simp [intOf]; omega
    · have g := aft_stop x1 (Int.not_lt.1 hlt)
      have e : x = aftI n d := by omega
      subst e
      obtain ⟨_, _, q1, q2⟩ := (right_iff _ _).1 hr
      go_wp2
      refine bodyPost_ret (v := .tuple #[.agg #[.int .i64 (aftI n d), .int .i64 1], .bool true]) (by simp [results, Try.results12, go_sem, c1, d1]) rfl ⟨rfl, ?_⟩
      repeat (first | exact Below.refl _ _ | with_reducible refine bs ?_ (by dsimp only; omega) | with_reducible refine bd ?_ | with_reducible refine ba ?_ | with_reducible refine bt ?_ (by assumption))

set_option maxHeartbeats 1600000 in
theorem refAfter_far (n d : Int) (w : World) (h : rightB n d = true) (hr : rightB (aftI n d) 1 = false) :
    Calls Try.prog 12 #[.agg #[.int .i64 n, .int .i64 d]] w fun e w' => e = .returned (.tuple #[.agg #[.int .i64 0, .int .i64 0], .bool false]) ∧ Below w.heap.size w w' := by
  obtain ⟨x1, x2, x3, x4⟩ := (right_iff _ _).1 h
  obtain ⟨b1, b2⟩ := aft_bd x1 x3 x4
  obtain ⟨b3, b4⟩ := aft_range x1 x3 x4
  obtain ⟨b5, b6⟩ := aft_start (n := n) x1
  go_enter Try.func12, Try.ntmps12
  go_wp2_with (go_at_call 14; refine (refRight_any _ _ _).mono ?_; rintro e w1 ⟨rfl, hb⟩; obtain ⟨c0, d0, f0, g0, z0⟩ := keep2 hb w.heap.size (.int .i64 n) (.int .i64 d) (by first | omega | (simp; done) | (simp; omega)) (by go_simp) (by go_simp) (by go_simp) (by go_simp); obtain ⟨c1, d1, f1, g1, z1⟩ := keep2 hb (w.heap.size + 1) (.int .i64 0) (.int .i64 0) (by first | omega | (simp; done) | (simp; omega)) (by go_simp) (by go_simp) (by go_simp) (by go_simp))
  go_loop [4] (fun s => ∃ x : Int, aftI n d ≤ x ∧ x ≤ aftI n d + 2 ∧ s = .int .i64 x) (fun s => (intOf s - aftI n d).toNat)
  case atStart => exact ⟨n.tdiv d + 2, by omega, by omega, rfl⟩
  case round =>
    obtain ⟨x, r1, r2, rfl⟩ := hrel
    have p1 := Int.mul_le_mul_of_nonneg_right (show -1048577 ≤ x - 1 by omega) (show 0 ≤ d by omega)
    have p2 := Int.mul_le_mul_of_nonneg_right (show x - 1 ≤ 1048578 by omega) (show 0 ≤ d by omega)
    have p3 : -1073742848 ≤ (x - 1) * d := by omega
    have p4 : (x - 1) * d ≤ 1073743872 := by omega
    clear p1 p2
    by_cases hlt : n < (x - 1) * d
    · have g := aft_go x1 hlt
      go_wp2
      go_round
      case rel => exact ⟨x - 1, by omega, by omega, rfl⟩
      case measure => simp [intOf]; omega
    · have g := aft_stop x1 (Int.not_lt.1 hlt)
      have e : x = aftI n d := by omega
      subst e
      have q1 : 1048576 < aftI n d := by
        have := (right_no _ _).1 hr
        omega
      go_wp2
      refine bodyPost_ret (v := .tuple #[.agg #[.int .i64 0, .int .i64 0], .bool false]) (by simp [results, Try.results12, go_sem, c1, d1]) rfl ⟨rfl, ?_⟩
      repeat (first | exact Below.refl _ _ | with_reducible refine bs ?_ (by dsimp only; omega) | with_reducible refine bd ?_ | with_reducible refine ba ?_ | with_reducible refine bt ?_ (by assumption))

set_option maxHeartbeats 800000 in
theorem refMax_second (n d m c : Int) (w : World) (h : cmpI m c n d = 1) :
    Calls Try.prog 20 #[.agg #[.int .i64 n, .int .i64 d], .agg #[.int .i64 m, .int .i64 c]] w fun e w' => e = .returned (.agg #[.int .i64 m, .int .i64 c]) ∧ Below w.heap.size w w' := by
  go_enter Try.func20, Try.ntmps20
  go_wp2_with (go_at_call 16; refine (refCmp_any _ _ _ _ _).mono ?_; rintro e w1 ⟨rfl, hb⟩; obtain ⟨c0, d0, f0, g0, z0⟩ := keep2 hb w.heap.size (.int .i64 n) (.int .i64 d) (by first | omega | (simp; done) | (simp; omega)) (by go_simp) (by go_simp) (by go_simp) (by go_simp); obtain ⟨c1, d1, f1, g1, z1⟩ := keep2 hb (w.heap.size + 1) (.int .i64 m) (.int .i64 c) (by first | omega | (simp; done) | (simp; omega)) (by go_simp) (by go_simp) (by go_simp) (by go_simp); obtain ⟨c2, d2, f2, g2, z2⟩ := keep2 hb (w.heap.size + 1 + 1) (.int .i64 0) (.int .i64 0) (by first | omega | (simp; done) | (simp; omega)) (by go_simp) (by go_simp) (by go_simp) (by go_simp))
  refine bodyPost_ret (v := .agg #[.int .i64 m, .int .i64 c]) (by simp [results, Try.results20, go_sem, c2, d2]) rfl ⟨rfl, ?_⟩
  repeat (first | exact Below.refl _ _ | with_reducible refine bs ?_ (by dsimp only; omega) | with_reducible refine bd ?_ | with_reducible refine ba ?_ | with_reducible refine bt ?_ (by assumption))

set_option maxHeartbeats 800000 in
theorem refMax_first (n d m c : Int) (w : World) (h : (cmpI m c n d == 1) = false) :
    Calls Try.prog 20 #[.agg #[.int .i64 n, .int .i64 d], .agg #[.int .i64 m, .int .i64 c]] w fun e w' => e = .returned (.agg #[.int .i64 n, .int .i64 d]) ∧ Below w.heap.size w w' := by
  go_enter Try.func20, Try.ntmps20
  go_wp2_with (go_at_call 16; refine (refCmp_any _ _ _ _ _).mono ?_; rintro e w1 ⟨rfl, hb⟩; obtain ⟨c0, d0, f0, g0, z0⟩ := keep2 hb w.heap.size (.int .i64 n) (.int .i64 d) (by first | omega | (simp; done) | (simp; omega)) (by go_simp) (by go_simp) (by go_simp) (by go_simp); obtain ⟨c1, d1, f1, g1, z1⟩ := keep2 hb (w.heap.size + 1) (.int .i64 m) (.int .i64 c) (by first | omega | (simp; done) | (simp; omega)) (by go_simp) (by go_simp) (by go_simp) (by go_simp); obtain ⟨c2, d2, f2, g2, z2⟩ := keep2 hb (w.heap.size + 1 + 1) (.int .i64 0) (.int .i64 0) (by first | omega | (simp; done) | (simp; omega)) (by go_simp) (by go_simp) (by go_simp) (by go_simp))
  refine bodyPost_ret (v := .agg #[.int .i64 n, .int .i64 d]) (by simp [results, Try.results20, go_sem, c2, d2]) rfl ⟨rfl, ?_⟩
  repeat (first | exact Below.refl _ _ | with_reducible refine bs ?_ (by dsimp only; omega) | with_reducible refine bd ?_ | with_reducible refine ba ?_ | with_reducible refine bt ?_ (by assumption))

end Go.Proofs.Ytojelhdlomcdpaa
