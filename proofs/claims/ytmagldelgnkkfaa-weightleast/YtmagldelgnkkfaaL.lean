/-
  The walk of the library's function that merges two rows in order: where both have two or more; and of all that it does.
-/
import Derived.Test.YtmagldelgnkkfaaJ
import Derived.Test.YtmagldelgnkkfaaK
namespace Go.Proofs.Ytmagldelgnkkfaa
open Go.RowKit

/-- What a merge does. -/
def Merges (g cap L : Nat) : Prop := ∀ (zs : List Nat) (a m b : Nat) (w : World), b - a < L → OwnF w g zs → Fits zs → zs.length ≤ 1000 → a < m → m < b → b ≤ zs.length → Srt (at0 zs) a m → Srt (at0 zs) m b →
    Calls Try.prog 30 #[.slice (some ⟨g, 0, none⟩) zs.length cap, .int .i64 a, .int .i64 m, .int .i64 b, .func (.func 27) #[] #[]] w fun e w' => e = .returned (.tuple #[]) ∧ (∃ ys, OwnF w' g ys ∧ Mix zs ys a b ∧ Srt (at0 ys) a b) ∧ w.grownBy w' (some g)

theorem mix_rot {zs ys : List Nat} {a m b c d : Nat} (hp : ys.Perm zs) (h : ∀ x, at0 ys x = rotF (at0 zs) a m b x) (h1 : a ≤ m) (h2 : m ≤ b) (h3 : c ≤ a) (h4 : b ≤ d) : Mix zs ys c d :=
  Mix.wide ⟨hp, fun x hx => by rw [h, rotF_out _ h1 h2 x hx], fun x g1 g2 => by rw [h]; exact rotF_ins _ h1 h2 x g1 g2⟩ h3 h4

set_option maxRecDepth 100000 in
set_option maxHeartbeats 16000000 in
theorem big_gt (g : Nat) (zs : List Nat) (cap a m b mid : Nat) (w : World) (ih : Merges g cap (b - a)) (h : OwnF w g zs) (hf : Fits zs) (hn : zs.length ≤ 1000) (ham : a + 1 < m) (hmb : m + 1 < b) (hb : b ≤ zs.length) (hs : Srt (at0 zs) a m) (ht : Srt (at0 zs) m b)
    (hmid : mid = (a + b) / 2) (harm : mid < m) :
    Calls Try.prog 30 #[.slice (some ⟨g, 0, none⟩) zs.length cap, .int .i64 a, .int .i64 m, .int .i64 b, .func (.func 27) #[] #[]] w fun e w' => e = .returned (.tuple #[]) ∧ (∃ ys, OwnF w' g ys ∧ Mix zs ys a b ∧ Srt (at0 ys) a b) ∧ w.grownBy w' (some g) := by
  obtain ⟨N, hN⟩ : ∃ N, zs.length = N := ⟨_, rfl⟩
  have HN : Hid (zs.length = N) := hN
  have HF : Hid (Fits zs) := hf
  have HI : Hid (Merges g cap (b - a)) := ih
  have HS : Hid (Srt (at0 zs) a m) := hs
  have HT : Hid (Srt (at0 zs) m b) := ht
  have HD : Hid (mid = (a + b) / 2) := hmid
  rw [hN] at hn hb ⊢
  have t1 : ((m : Int) - (a : Int) == 1) = false := by rw [beq_eq_false_iff_ne]; omega
  have t2 : ((b : Int) - (m : Int) == 1) = false := by rw [beq_eq_false_iff_ne]; omega
  have k2 : ((a : Int) + (b : Int)) / 2 = (mid : Int) := by omega
  have b1 : a + 1 < mid := by omega
  have b2 : mid + 1 < b := by omega
  have harm' : (mid : Int) < (m : Int) := by omega
  have hlo : a ≤ mid + m - b ∧ b ≤ mid + m ∨ m ≤ mid := by omega
  clear hN hf hs ht ih hmid
  go_enter Try.func30, Try.ntmps30
  go_wp2_with fail
  go_loopw [20, 21] (fun s t wr => ∃ (i j : Nat), s = .int .i64 i ∧ t = .int .i64 j ∧ Hid (Found (fun c => !lsB (at0 zs (mid + m - 1 - c)) (at0 zs c)) (mid + m - b) mid i j) ∧ Hid (OwnF wr g zs) ∧ w.grownBy wr (some g)) (fun s t _ => (intOf t).toNat - (intOf s).toNat)
  case atStart => exact ⟨(mid + m - b), mid, by go_num, by go_num, Found.start (by omega), h, World.grownBy.refl _ _⟩
  case round =>
    obtain ⟨i, j, rfl, rfl, hd, ho, hg⟩ := hrel
    have bj : i ≤ j ∧ j ≤ mid ∧ (mid + m - b) ≤ i := ⟨hd.out.2.1, hd.out.2.2.1, hd.out.1⟩
    by_cases c : i < j
    · have c' : (i : Int) < (j : Int) := by omega
      obtain ⟨k, hk⟩ : ∃ k, (i + j) / 2 = k := ⟨_, rfl⟩
      have k1 : (i : Int) + (j : Int) < 9223372036854775808 := by omega
      have k3 : ((i : Int) + (j : Int)) / 2 = (k : Int) := by omega
      have kk : i ≤ k ∧ k < j := by omega
      obtain ⟨z, hz⟩ : ∃ z, mid + m - 1 - k = z := ⟨_, rfl⟩
      have hz1 : (mid : Int) + (m : Int) - 1 - (k : Int) = (z : Int) := by have := HD.out; omega
      have zb : m ≤ z ∧ z < b := by have := HD.out; omega
      have c1 : wr.cell? ⟨g, k, none⟩ = some (.float .f64 (at0 zs k)) := ho.out.cell (by have := HN.out; omega)
      have c2 : wr.cell? ⟨g, z, none⟩ = some (.float .f64 (at0 zs z)) := ho.out.cell (by have := HN.out; omega)
      have e1 : (k : Int) < (N : Int) := by omega
      have e2 : (z : Int) < (N : Int) := by omega
      have x1 : at0 zs k < 18446744073709551616 := HF.out _
      have x2 : at0 zs z < 18446744073709551616 := HF.out _
      have mo : Hid (Mono (fun c => !lsB (at0 zs (mid + m - 1 - c)) (at0 zs c)) (mid + m - b) mid) := mono_cut HS.out HT.out (by omega) (by omega) (fun c g1 g2 => by have := HD.out; omega)
      cases q : lsB (at0 zs z) (at0 zs k)
      · have qq := cmp_not q
        go_wp2_with fail
        go_quiet ((go_at_call 27; exact Calls.quiet_of_same (order_any _ _ (by assumption) (by assumption) _)))
        go_wp2_with fail
        go_roundw
        case rel => exact ⟨k + 1, j, by go_num, rfl, hd.out.yes mo.out kk.1 kk.2 (by simp only [hz, q]; rfl), ho.out.drewN _, grown_drewN hg _⟩
        case measure => simp [intOf]; omega
      · have qq := cmp_neg q
        go_wp2_with fail
        go_quiet ((go_at_call 27; exact Calls.quiet_of_same (order_any _ _ (by assumption) (by assumption) _)))
        go_wp2_with fail
        go_roundw
        case rel => exact ⟨i, k, rfl, by go_num, hd.out.no mo.out kk.1 kk.2 (by simp only [hz, q]; rfl), ho.out.drewN _, grown_drewN hg _⟩
        case measure => simp [intOf]; omega
    · have ij : j = i := by omega
      subst ij
      obtain ⟨en, hen⟩ : ∃ en, en = mid + m - j := ⟨_, rfl⟩
      obtain ⟨q1, q2, q3, q4, q5, q6, s1, s2, s3, s4, so⟩ := cut_ok (f := at0 zs) (lo := (mid + m - b)) (hi := mid) (st := j) (en := en) (by omega) (by omega) HD.out HS.out HT.out (Or.inl ⟨harm, rfl, rfl⟩) hd.out hen
      have E1 : Hid (Srt (rotF (at0 zs) j m en) a j) := s1
      have E2 : Hid (Srt (rotF (at0 zs) j m en) j mid) := s2
      have E3 : Hid (Srt (rotF (at0 zs) j m en) mid en) := s3
      have E4 : Hid (Srt (rotF (at0 zs) j m en) en b) := s4
      have EO : Hid (∀ x y, a ≤ x → x < mid → mid ≤ y → y < b → rank (rotF (at0 zs) j m en x) ≤ rank (rotF (at0 zs) j m en y)) := so
      have he1 : (mid : Int) + (m : Int) - (j : Int) = (en : Int) := by omega
      clear s1 s2 s3 s4 so hd bj hlo
      by_cases cm : j = mid
      · have fj_m : (j : Int) < (m : Int) := by omega
        have nm_en : ¬ ((m : Int) < (en : Int)) := by omega
        have dm_en : decide ((m : Int) < (en : Int)) = false := by simp; omega
        have fa_j : (a : Int) < (j : Int) := by omega
        have nj_mid : ¬ ((j : Int) < (mid : Int)) := by omega
        have dj_mid : decide ((j : Int) < (mid : Int)) = false := by simp; omega
        have fmid_en : (mid : Int) < (en : Int) := by omega
        have fen_b : (en : Int) < (b : Int) := by omega
        clear hen cm
        have HO1 : Hid (OwnF wr g zs) := ho
        have HR1 : Hid (∀ x, at0 zs x = rotF (at0 zs) j m en x) := fun x => (rotF_none (by omega) x (by omega) (by omega)).symm
        have HM1 : Hid (Mix zs zs a b) := Mix.refl _ _ _
        have HG1 : Hid (w.grownBy wr (some g)) := hg
        clear ho hg
        have HL1 : Hid (zs.length = N) := HM1.out.len.trans HN.out
        have HO2 : Hid (OwnF wr g zs) := HO1
        have HM2 : Hid (Mix zs zs a mid) := Mix.refl _ _ _
        have HS2 : Hid (Srt (at0 zs) a mid) := by
          by_cases ja : j = a
          · have := E2.out.congr (g := at0 zs) fun x _ _ => HR1.out x
            rwa [ja] at this
          · have jm : j = mid := by omega
            have := E1.out.congr (g := at0 zs) fun x _ _ => HR1.out x
            rwa [jm] at this
        have HG2 : Hid (w.grownBy wr (some g)) := HG1
        have HL2 : Hid (zs.length = N) := HM2.out.len.trans HL1.out
        have HX3 : Hid (Srt (at0 zs) mid en) := E3.out.congr fun x g1 _ => (HM2.out.out x (by omega)).trans (HR1.out x)
        have HX4 : Hid (Srt (at0 zs) en b) := E4.out.congr fun x g1 _ => (HM2.out.out x (by omega)).trans (HR1.out x)
        have hr := HI.out zs mid en b wr (by omega) HO2.out (HM2.out.fits (HM1.out.fits HF.out)) (by have := HL2.out; omega) (by omega) (by omega) (by have := HL2.out; omega) HX3.out HX4.out
        rw [HL2.out] at hr
        go_wp2_with (go_at_call 30; refine hr.mono ?_; rintro e w3 ⟨rfl, ⟨us, ho3, hm3, hs3⟩, hg3⟩; clear hr)
        go_end0
        obtain ⟨M, O⟩ := halves (zs := zs) (ys := zs) (xs := us) (a := a) (mid := mid) (b := b) (by omega) (by omega) HM2.out hm3 HS2.out hs3 (fun x y g1 g2 g3 g4 => by rw [HR1.out, HR1.out]; exact EO.out x y g1 g2 g3 g4)
        exact ⟨rfl, ⟨us, ho3, HM1.out.trans M, O⟩, HG2.out.trans hg3⟩
      · by_cases ca : j = a
        · by_cases ce : en = b
          · have fj_m : (j : Int) < (m : Int) := by omega
            have fm_en : (m : Int) < (en : Int) := by omega
            have fj_mid : (j : Int) < (mid : Int) := by omega
            have na_j : ¬ ((a : Int) < (j : Int)) := by omega
            have da_j : decide ((a : Int) < (j : Int)) = false := by simp; omega
            have fmid_en : (mid : Int) < (en : Int) := by omega
            have nen_b : ¬ ((en : Int) < (b : Int)) := by omega
            have den_b : decide ((en : Int) < (b : Int)) = false := by simp; omega
            clear hen cm ca ce
            have hc := rotate_any g zs cap j m en (.func (.func 27) #[] #[]) wr ho.out (by have := HN.out; omega) (by omega) (by omega) (by have := HN.out; omega)
            rw [HN.out] at hc
            go_wp2_with (go_at_call 31; refine hc.mono ?_; rintro e w1 ⟨rfl, ⟨ys, ho1, hp1, hs1⟩, hg1⟩; clear hc)
            have HO1 : Hid (OwnF w1 g ys) := ho1
            have HR1 : Hid (∀ x, at0 ys x = rotF (at0 zs) j m en x) := hs1
            have HM1 : Hid (Mix zs ys a b) := mix_rot hp1 hs1 (by omega) (by omega) (by omega) (by omega)
            have HG1 : Hid (w.grownBy w1 (some g)) := hg.trans hg1
            clear ho1 hs1 hp1 hg1 ho hg
            have HL1 : Hid (ys.length = N) := HM1.out.len.trans HN.out
            have HO2 : Hid (OwnF w1 g ys) := HO1
            have HM2 : Hid (Mix ys ys a mid) := Mix.refl _ _ _
            have HS2 : Hid (Srt (at0 ys) a mid) := by
              by_cases ja : j = a
              · have := E2.out.congr (g := at0 ys) fun x _ _ => HR1.out x
                rwa [ja] at this
              · have jm : j = mid := by omega
                have := E1.out.congr (g := at0 ys) fun x _ _ => HR1.out x
                rwa [jm] at this
            have HG2 : Hid (w.grownBy w1 (some g)) := HG1
            have HL2 : Hid (ys.length = N) := HM2.out.len.trans HL1.out
            have HX3 : Hid (Srt (at0 ys) mid en) := E3.out.congr fun x g1 _ => (HM2.out.out x (by omega)).trans (HR1.out x)
            have HX4 : Hid (Srt (at0 ys) en b) := E4.out.congr fun x g1 _ => (HM2.out.out x (by omega)).trans (HR1.out x)
            have HS3 : Hid (Srt (at0 ys) mid b) := by
              by_cases eb : en = b
              · have := HX3.out
                rwa [eb] at this
              · have em : en = mid := by omega
                have := HX4.out
                rwa [em] at this
            go_wp2_with fail
            go_end0
            obtain ⟨M, O⟩ := halves (zs := ys) (ys := ys) (xs := ys) (a := a) (mid := mid) (b := b) (by omega) (by omega) HM2.out (Mix.refl _ _ _) HS2.out HS3.out (fun x y g1 g2 g3 g4 => by rw [HR1.out, HR1.out]; exact EO.out x y g1 g2 g3 g4)
            exact ⟨rfl, ⟨ys, HO2.out, HM1.out.trans M, O⟩, HG2.out⟩
          · exfalso; have := HD.out; omega
        · by_cases ce : en = b
          · have fj_m : (j : Int) < (m : Int) := by omega
            have fm_en : (m : Int) < (en : Int) := by omega
            have fa_j : (a : Int) < (j : Int) := by omega
            have fj_mid : (j : Int) < (mid : Int) := by omega
            have fmid_en : (mid : Int) < (en : Int) := by omega
            have nen_b : ¬ ((en : Int) < (b : Int)) := by omega
            have den_b : decide ((en : Int) < (b : Int)) = false := by simp; omega
            clear hen cm ca ce
            have hc := rotate_any g zs cap j m en (.func (.func 27) #[] #[]) wr ho.out (by have := HN.out; omega) (by omega) (by omega) (by have := HN.out; omega)
            rw [HN.out] at hc
            go_wp2_with (go_at_call 31; refine hc.mono ?_; rintro e w1 ⟨rfl, ⟨ys, ho1, hp1, hs1⟩, hg1⟩; clear hc)
            have HO1 : Hid (OwnF w1 g ys) := ho1
            have HR1 : Hid (∀ x, at0 ys x = rotF (at0 zs) j m en x) := hs1
            have HM1 : Hid (Mix zs ys a b) := mix_rot hp1 hs1 (by omega) (by omega) (by omega) (by omega)
            have HG1 : Hid (w.grownBy w1 (some g)) := hg.trans hg1
            clear ho1 hs1 hp1 hg1 ho hg
            have HL1 : Hid (ys.length = N) := HM1.out.len.trans HN.out
            have hl := HI.out ys a j mid w1 (by omega) HO1.out (HM1.out.fits HF.out) (by have := HL1.out; omega) (by omega) (by omega) (by have := HL1.out; omega) (E1.out.congr fun x _ _ => HR1.out x) (E2.out.congr fun x _ _ => HR1.out x)
            rw [HL1.out] at hl
            go_wp2_with (go_at_call 30; refine hl.mono ?_; rintro e w2 ⟨rfl, ⟨xs, ho2, hm2, hs2⟩, hg2⟩; clear hl)
            have HO2 : Hid (OwnF w2 g xs) := ho2
            have HM2 : Hid (Mix ys xs a mid) := hm2
            have HS2 : Hid (Srt (at0 xs) a mid) := hs2
            have HG2 : Hid (w.grownBy w2 (some g)) := HG1.out.trans hg2
            clear ho2 hm2 hs2 hg2
            have HL2 : Hid (xs.length = N) := HM2.out.len.trans HL1.out
            have HX3 : Hid (Srt (at0 xs) mid en) := E3.out.congr fun x g1 _ => (HM2.out.out x (by omega)).trans (HR1.out x)
            have HX4 : Hid (Srt (at0 xs) en b) := E4.out.congr fun x g1 _ => (HM2.out.out x (by omega)).trans (HR1.out x)
            have HS3 : Hid (Srt (at0 xs) mid b) := by
              by_cases eb : en = b
              · have := HX3.out
                rwa [eb] at this
              · have em : en = mid := by omega
                have := HX4.out
                rwa [em] at this
            go_wp2_with fail
            go_end0
            obtain ⟨M, O⟩ := halves (zs := ys) (ys := xs) (xs := xs) (a := a) (mid := mid) (b := b) (by omega) (by omega) HM2.out (Mix.refl _ _ _) HS2.out HS3.out (fun x y g1 g2 g3 g4 => by rw [HR1.out, HR1.out]; exact EO.out x y g1 g2 g3 g4)
            exact ⟨rfl, ⟨xs, HO2.out, HM1.out.trans M, O⟩, HG2.out⟩
          · have fj_m : (j : Int) < (m : Int) := by omega
            have fm_en : (m : Int) < (en : Int) := by omega
            have fa_j : (a : Int) < (j : Int) := by omega
            have fj_mid : (j : Int) < (mid : Int) := by omega
            have fmid_en : (mid : Int) < (en : Int) := by omega
            have fen_b : (en : Int) < (b : Int) := by omega
            clear hen cm ca ce
            have hc := rotate_any g zs cap j m en (.func (.func 27) #[] #[]) wr ho.out (by have := HN.out; omega) (by omega) (by omega) (by have := HN.out; omega)
            rw [HN.out] at hc
            go_wp2_with (go_at_call 31; refine hc.mono ?_; rintro e w1 ⟨rfl, ⟨ys, ho1, hp1, hs1⟩, hg1⟩; clear hc)
            have HO1 : Hid (OwnF w1 g ys) := ho1
            have HR1 : Hid (∀ x, at0 ys x = rotF (at0 zs) j m en x) := hs1
            have HM1 : Hid (Mix zs ys a b) := mix_rot hp1 hs1 (by omega) (by omega) (by omega) (by omega)
            have HG1 : Hid (w.grownBy w1 (some g)) := hg.trans hg1
            clear ho1 hs1 hp1 hg1 ho hg
            have HL1 : Hid (ys.length = N) := HM1.out.len.trans HN.out
            have hl := HI.out ys a j mid w1 (by omega) HO1.out (HM1.out.fits HF.out) (by have := HL1.out; omega) (by omega) (by omega) (by have := HL1.out; omega) (E1.out.congr fun x _ _ => HR1.out x) (E2.out.congr fun x _ _ => HR1.out x)
            rw [HL1.out] at hl
            go_wp2_with (go_at_call 30; refine hl.mono ?_; rintro e w2 ⟨rfl, ⟨xs, ho2, hm2, hs2⟩, hg2⟩; clear hl)
            have HO2 : Hid (OwnF w2 g xs) := ho2
            have HM2 : Hid (Mix ys xs a mid) := hm2
            have HS2 : Hid (Srt (at0 xs) a mid) := hs2
            have HG2 : Hid (w.grownBy w2 (some g)) := HG1.out.trans hg2
            clear ho2 hm2 hs2 hg2
            have HL2 : Hid (xs.length = N) := HM2.out.len.trans HL1.out
            have HX3 : Hid (Srt (at0 xs) mid en) := E3.out.congr fun x g1 _ => (HM2.out.out x (by omega)).trans (HR1.out x)
            have HX4 : Hid (Srt (at0 xs) en b) := E4.out.congr fun x g1 _ => (HM2.out.out x (by omega)).trans (HR1.out x)
            have hr := HI.out xs mid en b w2 (by omega) HO2.out (HM2.out.fits (HM1.out.fits HF.out)) (by have := HL2.out; omega) (by omega) (by omega) (by have := HL2.out; omega) HX3.out HX4.out
            rw [HL2.out] at hr
            go_wp2_with (go_at_call 30; refine hr.mono ?_; rintro e w3 ⟨rfl, ⟨us, ho3, hm3, hs3⟩, hg3⟩; clear hr)
            go_end0
            obtain ⟨M, O⟩ := halves (zs := ys) (ys := xs) (xs := us) (a := a) (mid := mid) (b := b) (by omega) (by omega) HM2.out hm3 HS2.out hs3 (fun x y g1 g2 g3 g4 => by rw [HR1.out, HR1.out]; exact EO.out x y g1 g2 g3 g4)
            exact ⟨rfl, ⟨us, ho3, HM1.out.trans M, O⟩, HG2.out.trans hg3⟩

set_option maxRecDepth 100000 in
set_option maxHeartbeats 16000000 in
theorem big_le (g : Nat) (zs : List Nat) (cap a m b mid : Nat) (w : World) (ih : Merges g cap (b - a)) (h : OwnF w g zs) (hf : Fits zs) (hn : zs.length ≤ 1000) (ham : a + 1 < m) (hmb : m + 1 < b) (hb : b ≤ zs.length) (hs : Srt (at0 zs) a m) (ht : Srt (at0 zs) m b)
    (hmid : mid = (a + b) / 2) (harm : m ≤ mid) :
    Calls Try.prog 30 #[.slice (some ⟨g, 0, none⟩) zs.length cap, .int .i64 a, .int .i64 m, .int .i64 b, .func (.func 27) #[] #[]] w fun e w' => e = .returned (.tuple #[]) ∧ (∃ ys, OwnF w' g ys ∧ Mix zs ys a b ∧ Srt (at0 ys) a b) ∧ w.grownBy w' (some g) := by
  obtain ⟨N, hN⟩ : ∃ N, zs.length = N := ⟨_, rfl⟩
  have HN : Hid (zs.length = N) := hN
  have HF : Hid (Fits zs) := hf
  have HI : Hid (Merges g cap (b - a)) := ih
  have HS : Hid (Srt (at0 zs) a m) := hs
  have HT : Hid (Srt (at0 zs) m b) := ht
  have HD : Hid (mid = (a + b) / 2) := hmid
  rw [hN] at hn hb ⊢
  have t1 : ((m : Int) - (a : Int) == 1) = false := by rw [beq_eq_false_iff_ne]; omega
  have t2 : ((b : Int) - (m : Int) == 1) = false := by rw [beq_eq_false_iff_ne]; omega
  have k2 : ((a : Int) + (b : Int)) / 2 = (mid : Int) := by omega
  have b1 : a + 1 < mid := by omega
  have b2 : mid + 1 < b := by omega
  have harm' : ¬ ((mid : Int) < (m : Int)) := by omega
  have hlo : a ≤ mid + m - b ∧ b ≤ mid + m ∨ m ≤ mid := by omega
  clear hN hf hs ht ih hmid
  go_enter Try.func30, Try.ntmps30
  go_wp2_with fail
  go_loopw [20, 21] (fun s t wr => ∃ (i j : Nat), s = .int .i64 i ∧ t = .int .i64 j ∧ Hid (Found (fun c => !lsB (at0 zs (mid + m - 1 - c)) (at0 zs c)) a m i j) ∧ Hid (OwnF wr g zs) ∧ w.grownBy wr (some g)) (fun s t _ => (intOf t).toNat - (intOf s).toNat)
  case atStart => exact ⟨a, m, by go_num, by go_num, Found.start (by omega), h, World.grownBy.refl _ _⟩
  case round =>
    obtain ⟨i, j, rfl, rfl, hd, ho, hg⟩ := hrel
    have bj : i ≤ j ∧ j ≤ m ∧ a ≤ i := ⟨hd.out.2.1, hd.out.2.2.1, hd.out.1⟩
    by_cases c : i < j
    · have c' : (i : Int) < (j : Int) := by omega
      obtain ⟨k, hk⟩ : ∃ k, (i + j) / 2 = k := ⟨_, rfl⟩
      have k1 : (i : Int) + (j : Int) < 9223372036854775808 := by omega
      have k3 : ((i : Int) + (j : Int)) / 2 = (k : Int) := by omega
      have kk : i ≤ k ∧ k < j := by omega
      obtain ⟨z, hz⟩ : ∃ z, mid + m - 1 - k = z := ⟨_, rfl⟩
      have hz1 : (mid : Int) + (m : Int) - 1 - (k : Int) = (z : Int) := by have := HD.out; omega
      have zb : m ≤ z ∧ z < b := by have := HD.out; omega
      have c1 : wr.cell? ⟨g, k, none⟩ = some (.float .f64 (at0 zs k)) := ho.out.cell (by have := HN.out; omega)
      have c2 : wr.cell? ⟨g, z, none⟩ = some (.float .f64 (at0 zs z)) := ho.out.cell (by have := HN.out; omega)
      have e1 : (k : Int) < (N : Int) := by omega
      have e2 : (z : Int) < (N : Int) := by omega
      have x1 : at0 zs k < 18446744073709551616 := HF.out _
      have x2 : at0 zs z < 18446744073709551616 := HF.out _
      have mo : Hid (Mono (fun c => !lsB (at0 zs (mid + m - 1 - c)) (at0 zs c)) a m) := mono_cut HS.out HT.out (by omega) (by omega) (fun c g1 g2 => by have := HD.out; omega)
      cases q : lsB (at0 zs z) (at0 zs k)
      · have qq := cmp_not q
        go_wp2_with fail
        go_quiet ((go_at_call 27; exact Calls.quiet_of_same (order_any _ _ (by assumption) (by assumption) _)))
        go_wp2_with fail
        go_roundw
        case rel => exact ⟨k + 1, j, by go_num, rfl, hd.out.yes mo.out kk.1 kk.2 (by simp only [hz, q]; rfl), ho.out.drewN _, grown_drewN hg _⟩
        case measure => simp [intOf]; omega
      · have qq := cmp_neg q
        go_wp2_with fail
        go_quiet ((go_at_call 27; exact Calls.quiet_of_same (order_any _ _ (by assumption) (by assumption) _)))
        go_wp2_with fail
        go_roundw
        case rel => exact ⟨i, k, rfl, by go_num, hd.out.no mo.out kk.1 kk.2 (by simp only [hz, q]; rfl), ho.out.drewN _, grown_drewN hg _⟩
        case measure => simp [intOf]; omega
    · have ij : j = i := by omega
      subst ij
      obtain ⟨en, hen⟩ : ∃ en, en = mid + m - j := ⟨_, rfl⟩
      obtain ⟨q1, q2, q3, q4, q5, q6, s1, s2, s3, s4, so⟩ := cut_ok (f := at0 zs) (lo := a) (hi := m) (st := j) (en := en) (by omega) (by omega) HD.out HS.out HT.out (Or.inr ⟨harm, rfl, rfl⟩) hd.out hen
      have E1 : Hid (Srt (rotF (at0 zs) j m en) a j) := s1
      have E2 : Hid (Srt (rotF (at0 zs) j m en) j mid) := s2
      have E3 : Hid (Srt (rotF (at0 zs) j m en) mid en) := s3
      have E4 : Hid (Srt (rotF (at0 zs) j m en) en b) := s4
      have EO : Hid (∀ x y, a ≤ x → x < mid → mid ≤ y → y < b → rank (rotF (at0 zs) j m en x) ≤ rank (rotF (at0 zs) j m en y)) := so
      have he1 : (mid : Int) + (m : Int) - (j : Int) = (en : Int) := by omega
      clear s1 s2 s3 s4 so hd bj hlo
      by_cases cm : j = m
      · by_cases cn : m = mid
        · have nj_m : ¬ ((j : Int) < (m : Int)) := by omega
          have dj_m : decide ((j : Int) < (m : Int)) = false := by simp; omega
          have fa_j : (a : Int) < (j : Int) := by omega
          have nj_mid : ¬ ((j : Int) < (mid : Int)) := by omega
          have dj_mid : decide ((j : Int) < (mid : Int)) = false := by simp; omega
          have nmid_en : ¬ ((mid : Int) < (en : Int)) := by omega
          have dmid_en : decide ((mid : Int) < (en : Int)) = false := by simp; omega
          clear hen cm cn
          have HO1 : Hid (OwnF wr g zs) := ho
          have HR1 : Hid (∀ x, at0 zs x = rotF (at0 zs) j m en x) := fun x => (rotF_none (by omega) x (by omega) (by omega)).symm
          have HM1 : Hid (Mix zs zs a b) := Mix.refl _ _ _
          have HG1 : Hid (w.grownBy wr (some g)) := hg
          clear ho hg
          have HL1 : Hid (zs.length = N) := HM1.out.len.trans HN.out
          have HO2 : Hid (OwnF wr g zs) := HO1
          have HM2 : Hid (Mix zs zs a mid) := Mix.refl _ _ _
          have HS2 : Hid (Srt (at0 zs) a mid) := by
            by_cases ja : j = a
            · have := E2.out.congr (g := at0 zs) fun x _ _ => HR1.out x
              rwa [ja] at this
            · have jm : j = mid := by omega
              have := E1.out.congr (g := at0 zs) fun x _ _ => HR1.out x
              rwa [jm] at this
          have HG2 : Hid (w.grownBy wr (some g)) := HG1
          have HL2 : Hid (zs.length = N) := HM2.out.len.trans HL1.out
          have HX3 : Hid (Srt (at0 zs) mid en) := E3.out.congr fun x g1 _ => (HM2.out.out x (by omega)).trans (HR1.out x)
          have HX4 : Hid (Srt (at0 zs) en b) := E4.out.congr fun x g1 _ => (HM2.out.out x (by omega)).trans (HR1.out x)
          have HS3 : Hid (Srt (at0 zs) mid b) := by
            by_cases eb : en = b
            · have := HX3.out
              rwa [eb] at this
            · have em : en = mid := by omega
              have := HX4.out
              rwa [em] at this
          go_wp2_with fail
          go_end0
          obtain ⟨M, O⟩ := halves (zs := zs) (ys := zs) (xs := zs) (a := a) (mid := mid) (b := b) (by omega) (by omega) HM2.out (Mix.refl _ _ _) HS2.out HS3.out (fun x y g1 g2 g3 g4 => by rw [HR1.out, HR1.out]; exact EO.out x y g1 g2 g3 g4)
          exact ⟨rfl, ⟨zs, HO2.out, HM1.out.trans M, O⟩, HG2.out⟩
        · have nj_m : ¬ ((j : Int) < (m : Int)) := by omega
          have dj_m : decide ((j : Int) < (m : Int)) = false := by simp; omega
          have fa_j : (a : Int) < (j : Int) := by omega
          have fj_mid : (j : Int) < (mid : Int) := by omega
          have nmid_en : ¬ ((mid : Int) < (en : Int)) := by omega
          have dmid_en : decide ((mid : Int) < (en : Int)) = false := by simp; omega
          clear hen cm cn
          have HO1 : Hid (OwnF wr g zs) := ho
          have HR1 : Hid (∀ x, at0 zs x = rotF (at0 zs) j m en x) := fun x => (rotF_none (by omega) x (by omega) (by omega)).symm
          have HM1 : Hid (Mix zs zs a b) := Mix.refl _ _ _
          have HG1 : Hid (w.grownBy wr (some g)) := hg
          clear ho hg
          have HL1 : Hid (zs.length = N) := HM1.out.len.trans HN.out
          have hl := HI.out zs a j mid wr (by omega) HO1.out (HM1.out.fits HF.out) (by have := HL1.out; omega) (by omega) (by omega) (by have := HL1.out; omega) (E1.out.congr fun x _ _ => HR1.out x) (E2.out.congr fun x _ _ => HR1.out x)
          rw [HL1.out] at hl
          go_wp2_with (go_at_call 30; refine hl.mono ?_; rintro e w2 ⟨rfl, ⟨xs, ho2, hm2, hs2⟩, hg2⟩; clear hl)
          have HO2 : Hid (OwnF w2 g xs) := ho2
          have HM2 : Hid (Mix zs xs a mid) := hm2
          have HS2 : Hid (Srt (at0 xs) a mid) := hs2
          have HG2 : Hid (w.grownBy w2 (some g)) := HG1.out.trans hg2
          clear ho2 hm2 hs2 hg2
          have HL2 : Hid (xs.length = N) := HM2.out.len.trans HL1.out
          have HX3 : Hid (Srt (at0 xs) mid en) := E3.out.congr fun x g1 _ => (HM2.out.out x (by omega)).trans (HR1.out x)
          have HX4 : Hid (Srt (at0 xs) en b) := E4.out.congr fun x g1 _ => (HM2.out.out x (by omega)).trans (HR1.out x)
          have HS3 : Hid (Srt (at0 xs) mid b) := by
            by_cases eb : en = b
            · have := HX3.out
              rwa [eb] at this
            · have em : en = mid := by omega
              have := HX4.out
              rwa [em] at this
          go_wp2_with fail
          go_end0
          obtain ⟨M, O⟩ := halves (zs := zs) (ys := xs) (xs := xs) (a := a) (mid := mid) (b := b) (by omega) (by omega) HM2.out (Mix.refl _ _ _) HS2.out HS3.out (fun x y g1 g2 g3 g4 => by rw [HR1.out, HR1.out]; exact EO.out x y g1 g2 g3 g4)
          exact ⟨rfl, ⟨xs, HO2.out, HM1.out.trans M, O⟩, HG2.out⟩
      · by_cases ca : j = a
        · by_cases ce : en = b
          · have fj_m : (j : Int) < (m : Int) := by omega
            have fm_en : (m : Int) < (en : Int) := by omega
            have fj_mid : (j : Int) < (mid : Int) := by omega
            have na_j : ¬ ((a : Int) < (j : Int)) := by omega
            have da_j : decide ((a : Int) < (j : Int)) = false := by simp; omega
            have fmid_en : (mid : Int) < (en : Int) := by omega
            have nen_b : ¬ ((en : Int) < (b : Int)) := by omega
            have den_b : decide ((en : Int) < (b : Int)) = false := by simp; omega
            clear hen cm ca ce
            have hc := rotate_any g zs cap j m en (.func (.func 27) #[] #[]) wr ho.out (by have := HN.out; omega) (by omega) (by omega) (by have := HN.out; omega)
            rw [HN.out] at hc
            go_wp2_with (go_at_call 31; refine hc.mono ?_; rintro e w1 ⟨rfl, ⟨ys, ho1, hp1, hs1⟩, hg1⟩; clear hc)
            have HO1 : Hid (OwnF w1 g ys) := ho1
            have HR1 : Hid (∀ x, at0 ys x = rotF (at0 zs) j m en x) := hs1
            have HM1 : Hid (Mix zs ys a b) := mix_rot hp1 hs1 (by omega) (by omega) (by omega) (by omega)
            have HG1 : Hid (w.grownBy w1 (some g)) := hg.trans hg1
            clear ho1 hs1 hp1 hg1 ho hg
            have HL1 : Hid (ys.length = N) := HM1.out.len.trans HN.out
            have HO2 : Hid (OwnF w1 g ys) := HO1
            have HM2 : Hid (Mix ys ys a mid) := Mix.refl _ _ _
            have HS2 : Hid (Srt (at0 ys) a mid) := by
              by_cases ja : j = a
              · have := E2.out.congr (g := at0 ys) fun x _ _ => HR1.out x
                rwa [ja] at this
              · have jm : j = mid := by omega
                have := E1.out.congr (g := at0 ys) fun x _ _ => HR1.out x
                rwa [jm] at this
            have HG2 : Hid (w.grownBy w1 (some g)) := HG1
            have HL2 : Hid (ys.length = N) := HM2.out.len.trans HL1.out
            have HX3 : Hid (Srt (at0 ys) mid en) := E3.out.congr fun x g1 _ => (HM2.out.out x (by omega)).trans (HR1.out x)
            have HX4 : Hid (Srt (at0 ys) en b) := E4.out.congr fun x g1 _ => (HM2.out.out x (by omega)).trans (HR1.out x)
            have HS3 : Hid (Srt (at0 ys) mid b) := by
              by_cases eb : en = b
              · have := HX3.out
                rwa [eb] at this
              · have em : en = mid := by omega
                have := HX4.out
                rwa [em] at this
            go_wp2_with fail
            go_end0
            obtain ⟨M, O⟩ := halves (zs := ys) (ys := ys) (xs := ys) (a := a) (mid := mid) (b := b) (by omega) (by omega) HM2.out (Mix.refl _ _ _) HS2.out HS3.out (fun x y g1 g2 g3 g4 => by rw [HR1.out, HR1.out]; exact EO.out x y g1 g2 g3 g4)
            exact ⟨rfl, ⟨ys, HO2.out, HM1.out.trans M, O⟩, HG2.out⟩
          · have fj_m : (j : Int) < (m : Int) := by omega
            have fm_en : (m : Int) < (en : Int) := by omega
            have fj_mid : (j : Int) < (mid : Int) := by omega
            have na_j : ¬ ((a : Int) < (j : Int)) := by omega
            have da_j : decide ((a : Int) < (j : Int)) = false := by simp; omega
            have fmid_en : (mid : Int) < (en : Int) := by omega
            have fen_b : (en : Int) < (b : Int) := by omega
            clear hen cm ca ce
            have hc := rotate_any g zs cap j m en (.func (.func 27) #[] #[]) wr ho.out (by have := HN.out; omega) (by omega) (by omega) (by have := HN.out; omega)
            rw [HN.out] at hc
            go_wp2_with (go_at_call 31; refine hc.mono ?_; rintro e w1 ⟨rfl, ⟨ys, ho1, hp1, hs1⟩, hg1⟩; clear hc)
            have HO1 : Hid (OwnF w1 g ys) := ho1
            have HR1 : Hid (∀ x, at0 ys x = rotF (at0 zs) j m en x) := hs1
            have HM1 : Hid (Mix zs ys a b) := mix_rot hp1 hs1 (by omega) (by omega) (by omega) (by omega)
            have HG1 : Hid (w.grownBy w1 (some g)) := hg.trans hg1
            clear ho1 hs1 hp1 hg1 ho hg
            have HL1 : Hid (ys.length = N) := HM1.out.len.trans HN.out
            have HO2 : Hid (OwnF w1 g ys) := HO1
            have HM2 : Hid (Mix ys ys a mid) := Mix.refl _ _ _
            have HS2 : Hid (Srt (at0 ys) a mid) := by
              by_cases ja : j = a
              · have := E2.out.congr (g := at0 ys) fun x _ _ => HR1.out x
                rwa [ja] at this
              · have jm : j = mid := by omega
                have := E1.out.congr (g := at0 ys) fun x _ _ => HR1.out x
                rwa [jm] at this
            have HG2 : Hid (w.grownBy w1 (some g)) := HG1
            have HL2 : Hid (ys.length = N) := HM2.out.len.trans HL1.out
            have HX3 : Hid (Srt (at0 ys) mid en) := E3.out.congr fun x g1 _ => (HM2.out.out x (by omega)).trans (HR1.out x)
            have HX4 : Hid (Srt (at0 ys) en b) := E4.out.congr fun x g1 _ => (HM2.out.out x (by omega)).trans (HR1.out x)
            have hr := HI.out ys mid en b w1 (by omega) HO2.out (HM2.out.fits (HM1.out.fits HF.out)) (by have := HL2.out; omega) (by omega) (by omega) (by have := HL2.out; omega) HX3.out HX4.out
            rw [HL2.out] at hr
            go_wp2_with (go_at_call 30; refine hr.mono ?_; rintro e w3 ⟨rfl, ⟨us, ho3, hm3, hs3⟩, hg3⟩; clear hr)
            go_end0
            obtain ⟨M, O⟩ := halves (zs := ys) (ys := ys) (xs := us) (a := a) (mid := mid) (b := b) (by omega) (by omega) HM2.out hm3 HS2.out hs3 (fun x y g1 g2 g3 g4 => by rw [HR1.out, HR1.out]; exact EO.out x y g1 g2 g3 g4)
            exact ⟨rfl, ⟨us, ho3, HM1.out.trans M, O⟩, HG2.out.trans hg3⟩
        · by_cases ce : en = b
          · exfalso; have := HD.out; omega
          · have fj_m : (j : Int) < (m : Int) := by omega
            have fm_en : (m : Int) < (en : Int) := by omega
            have fa_j : (a : Int) < (j : Int) := by omega
            have fj_mid : (j : Int) < (mid : Int) := by omega
            have fmid_en : (mid : Int) < (en : Int) := by omega
            have fen_b : (en : Int) < (b : Int) := by omega
            clear hen cm ca ce
            have hc := rotate_any g zs cap j m en (.func (.func 27) #[] #[]) wr ho.out (by have := HN.out; omega) (by omega) (by omega) (by have := HN.out; omega)
            rw [HN.out] at hc
            go_wp2_with (go_at_call 31; refine hc.mono ?_; rintro e w1 ⟨rfl, ⟨ys, ho1, hp1, hs1⟩, hg1⟩; clear hc)
            have HO1 : Hid (OwnF w1 g ys) := ho1
            have HR1 : Hid (∀ x, at0 ys x = rotF (at0 zs) j m en x) := hs1
            have HM1 : Hid (Mix zs ys a b) := mix_rot hp1 hs1 (by omega) (by omega) (by omega) (by omega)
            have HG1 : Hid (w.grownBy w1 (some g)) := hg.trans hg1
            clear ho1 hs1 hp1 hg1 ho hg
            have HL1 : Hid (ys.length = N) := HM1.out.len.trans HN.out
            have hl := HI.out ys a j mid w1 (by omega) HO1.out (HM1.out.fits HF.out) (by have := HL1.out; omega) (by omega) (by omega) (by have := HL1.out; omega) (E1.out.congr fun x _ _ => HR1.out x) (E2.out.congr fun x _ _ => HR1.out x)
            rw [HL1.out] at hl
            go_wp2_with (go_at_call 30; refine hl.mono ?_; rintro e w2 ⟨rfl, ⟨xs, ho2, hm2, hs2⟩, hg2⟩; clear hl)
            have HO2 : Hid (OwnF w2 g xs) := ho2
            have HM2 : Hid (Mix ys xs a mid) := hm2
            have HS2 : Hid (Srt (at0 xs) a mid) := hs2
            have HG2 : Hid (w.grownBy w2 (some g)) := HG1.out.trans hg2
            clear ho2 hm2 hs2 hg2
            have HL2 : Hid (xs.length = N) := HM2.out.len.trans HL1.out
            have HX3 : Hid (Srt (at0 xs) mid en) := E3.out.congr fun x g1 _ => (HM2.out.out x (by omega)).trans (HR1.out x)
            have HX4 : Hid (Srt (at0 xs) en b) := E4.out.congr fun x g1 _ => (HM2.out.out x (by omega)).trans (HR1.out x)
            have hr := HI.out xs mid en b w2 (by omega) HO2.out (HM2.out.fits (HM1.out.fits HF.out)) (by have := HL2.out; omega) (by omega) (by omega) (by have := HL2.out; omega) HX3.out HX4.out
            rw [HL2.out] at hr
            go_wp2_with (go_at_call 30; refine hr.mono ?_; rintro e w3 ⟨rfl, ⟨us, ho3, hm3, hs3⟩, hg3⟩; clear hr)
            go_end0
            obtain ⟨M, O⟩ := halves (zs := ys) (ys := xs) (xs := us) (a := a) (mid := mid) (b := b) (by omega) (by omega) HM2.out hm3 HS2.out hs3 (fun x y g1 g2 g3 g4 => by rw [HR1.out, HR1.out]; exact EO.out x y g1 g2 g3 g4)
            exact ⟨rfl, ⟨us, ho3, HM1.out.trans M, O⟩, HG2.out.trans hg3⟩

theorem symMerge_any (g cap : Nat) : ∀ L, Merges g cap L := by
  intro L
  induction L with
  | zero => intro zs a m b w h; omega
  | succ L ih =>
    intro zs a m b w hL h hf hn ham hmb hb hs ht
    by_cases c1 : m = a + 1
    · exact symMerge_first g zs cap a m b w h hf hn c1 hmb hb ht
    · by_cases c2 : b = m + 1
      · exact symMerge_last g zs cap a m b w h hf hn (by omega) c2 hb hs
      · have ih' : Merges g cap (b - a) := fun zs' a' m' b' w' hl => ih zs' a' m' b' w' (by omega)
        by_cases c3 : (a + b) / 2 < m
        · exact big_gt g zs cap a m b _ w ih' h hf hn (by omega) (by omega) hb hs ht rfl c3
        · exact big_le g zs cap a m b _ w ih' h hf hn (by omega) (by omega) hb hs ht rfl (by omega)
end Go.Proofs.Ytmagldelgnkkfaa
