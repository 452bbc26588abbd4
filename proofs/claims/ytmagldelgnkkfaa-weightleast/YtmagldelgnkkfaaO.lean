/-
  The walk of the library's function that puts a row of floats in order, block by block.
-/
import Derived.Test.YtmagldelgnkkfaaL
namespace Go.Proofs.Ytmagldelgnkkfaa
open Go.RowKit

/-- From lo to hi each block of so many is in order. -/
def Blk (f : Nat → Nat) (bs lo hi : Nat) : Prop := ∀ x y, lo ≤ x → x ≤ y → y < hi → x / bs = y / bs → rank (f x) ≤ rank (f y)
def Two (bs c : Nat) : Prop := (bs = 20 ∧ c = 40) ∨ (bs = 40 ∧ c = 80) ∨ (bs = 80 ∧ c = 160)
theorem blk_next {zs ys : List Nat} {bs a b : Nat} (hbs : bs = 20 ∨ bs = 40 ∨ bs = 80 ∨ bs = 160) (h : Blk (at0 zs) bs 0 a) (ha : a % bs = 0) (m : Mix zs ys a b) (s : Srt (at0 ys) a b) : Blk (at0 ys) bs 0 b := by
  intro x y g1 g2 g3 g4
  by_cases c : y < a
  · rw [m.out x (by omega), m.out y (by omega)]; exact h x y g1 g2 c g4
  · refine s x y ?_ g2 g3
    rcases hbs with rfl | rfl | rfl | rfl <;> omega
theorem blk_rest {zs ys : List Nat} {bs a b N : Nat} (h : Blk (at0 zs) bs a N) (m : Mix zs ys a b) (hab : a ≤ b) : Blk (at0 ys) bs b N := by
  intro x y g1 g2 g3 g4
  rw [m.out x (by omega), m.out y (by omega)]; exact h x y (by omega) g2 g3 g4
theorem blk_one {f : Nat → Nat} {bs c a N : Nat} (t : Two bs c) (h : Blk f bs a N) (ha : a % c = 0) (hn : a + bs ≤ N) : Srt f a (a + bs) := fun x y g1 g2 g3 =>
  h x y g1 g2 (by omega) (by rcases t with ⟨rfl, rfl⟩ | ⟨rfl, rfl⟩ | ⟨rfl, rfl⟩ <;> omega)
theorem blk_two {f : Nat → Nat} {bs c a b N : Nat} (t : Two bs c) (h : Blk f bs a N) (ha : a % c = 0) (hb : b ≤ a + c) (hn : b ≤ N) : Srt f (a + bs) b := fun x y g1 g2 g3 =>
  h x y (by omega) g2 (by omega) (by rcases t with ⟨rfl, rfl⟩ | ⟨rfl, rfl⟩ | ⟨rfl, rfl⟩ <;> omega)
theorem blk_end {f : Nat → Nat} {bs c a N : Nat} (t : Two bs c) (h : Blk f c 0 a) (g : Blk f bs a N) (ha : a % c = 0) (hn : N ≤ a + bs) : Blk f c 0 N := fun x y g1 g2 g3 g4 => by
  by_cases d : y < a
  · exact h x y g1 g2 d g4
  · exact g x y (by rcases t with ⟨rfl, rfl⟩ | ⟨rfl, rfl⟩ | ⟨rfl, rfl⟩ <;> omega) g2 g3 (by rcases t with ⟨rfl, rfl⟩ | ⟨rfl, rfl⟩ | ⟨rfl, rfl⟩ <;> omega)
theorem blk_all {f : Nat → Nat} {bs N : Nat} (h : Blk f bs 0 N) (hn : N ≤ bs) : Srt f 0 N := fun x y g1 g2 g3 =>
  h x y g1 g2 g3 (by rw [Nat.div_eq_of_lt (by omega), Nat.div_eq_of_lt (by omega)])
theorem two_mod {bs c a : Nat} (t : Two bs c) (ha : a % c = 0) : (a + c) % c = 0 := by rcases t with ⟨rfl, rfl⟩ | ⟨rfl, rfl⟩ | ⟨rfl, rfl⟩ <;> omega

set_option maxRecDepth 100000 in
set_option maxHeartbeats 8000000 in
theorem stable_any (g : Nat) (zs : List Nat) (cap : Nat) (w : World) (h : OwnF w g zs) (hf : Fits zs) (hn : zs.length ≤ 100) :
    Calls Try.prog 28 #[.slice (some ⟨g, 0, none⟩) zs.length cap, .int .i64 zs.length, .func (.func 27) #[] #[]] w fun e w' => e = .returned (.tuple #[]) ∧ (∃ ys, OwnF w' g ys ∧ Mix zs ys 0 zs.length ∧ Srt (at0 ys) 0 zs.length) ∧ w.grownBy w' (some g) := by
  obtain ⟨N, hN⟩ : ∃ N, zs.length = N := ⟨_, rfl⟩
  have HN : Hid (zs.length = N) := hN
  have HF : Hid (Fits zs) := hf
  rw [hN] at hn ⊢
  clear hN hf
  go_enter Try.func28, Try.ntmps28
  go_wp2
  go_loopw [7, 8] (fun s t wr => ∃ (a : Nat) (ys : List Nat), a ≤ N ∧ s = .int .i64 a ∧ t = .int .i64 ((a : Int) + 20) ∧ Hid (a % 20 = 0) ∧ Hid (OwnF wr g ys) ∧ Hid (Mix zs ys 0 N) ∧ Hid (Blk (at0 ys) 20 0 a) ∧ w.grownBy wr (some g)) (fun s _ _ => N - (intOf s).toNat)
  case atStart => exact ⟨0, zs, Nat.zero_le _, rfl, by go_num, rfl, h, Mix.refl _ _ _, fun x y g1 g2 g3 _ => by omega, World.grownBy.refl _ _⟩
  case round =>
    obtain ⟨a, ys, ha, rfl, rfl, h20, ho, hm, hk, hg⟩ := hrel
    have hl : Hid (ys.length = N) := hm.out.len.trans HN.out
    by_cases c : a + 20 ≤ N
    · have c' : (a : Int) + 20 ≤ (N : Int) := by omega
      have hc := insertion_any g ys cap a (a + 20) wr ho.out (hm.out.fits HF.out) (by have := hl.out; omega) (by omega) (by have := hl.out; omega)
      rw [hl.out, show ((a + 20 : Nat) : Int) = (a : Int) + 20 by omega] at hc
      go_wp2_with (go_at_call 29; refine hc.mono ?_; rintro e w1 ⟨rfl, ⟨xs, ho1, hm1, hs1⟩, hg1⟩; clear hc)
      go_roundw
      case rel => exact ⟨a + 20, xs, by omega, by go_num, by go_num, by have := h20.out; show (a + 20) % 20 = 0; omega, ho1, hm.out.trans (hm1.wide (Nat.zero_le _) (by omega)), blk_next (Or.inl rfl) hk.out h20.out hm1 hs1, hg.trans hg1⟩
      case measure => simp [intOf]; omega
    · have c' : ¬ ((a : Int) + 20 ≤ (N : Int)) := by omega
      have hc := insertion_any g ys cap a N wr ho.out (hm.out.fits HF.out) (by have := hl.out; omega) (by omega) (by have := hl.out; omega)
      rw [hl.out] at hc
      go_wp2_with (go_at_call 29; refine hc.mono ?_; rintro e w1 ⟨rfl, ⟨xs, ho1, hm1, hs1⟩, hg1⟩; clear hc)
      have HO : Hid (OwnF w1 g xs) := ho1
      have HM : Hid (Mix zs xs 0 N) := hm.out.trans (hm1.wide (Nat.zero_le _) (by omega))
      have HB : Hid (Blk (at0 xs) 20 0 N) := blk_next (Or.inl rfl) hk.out h20.out hm1 hs1
      have HG : w.grownBy w1 (some g) := hg.trans hg1
      clear ho1 hm1 hs1 hg1 ho hm hk hg hl h20
      go_loopw [6] (fun s wr => ∃ (bs : Nat) (ys : List Nat), s = .int .i64 bs ∧ Hid (bs = 20 ∨ bs = 40 ∨ bs = 80 ∨ bs = 160) ∧ Hid (OwnF wr g ys) ∧ Hid (Mix zs ys 0 N) ∧ Hid (Blk (at0 ys) bs 0 N) ∧ w.grownBy wr (some g)) (fun s _ => 160 - (intOf s).toNat)
      case atStart => exact ⟨20, xs, rfl, Or.inl rfl, HO, HM, HB, HG⟩
      case round =>
        clear HO HM HB HG
        obtain ⟨bs, ys, rfl, hbs, ho, hm, hk, hg⟩ := hrel
        have bb : 20 ≤ bs ∧ bs ≤ 160 := by have := hbs.out; omega
        by_cases d : bs < N
        · have d' : (bs : Int) < (N : Int) := by omega
          obtain ⟨cc, hcc⟩ : ∃ cc, 2 * bs = cc := ⟨_, rfl⟩
          have T2 : Hid (Two bs cc) := by
            have := hbs.out
            show (bs = 20 ∧ cc = 40) ∨ (bs = 40 ∧ cc = 80) ∨ (bs = 80 ∧ cc = 160)
            omega
          have hc2 : 2 * (bs : Int) = (cc : Int) := by omega
          have hc3 : cc ≤ 160 := by have := T2.out; unfold Two at this; omega
          have HC : Hid (2 * bs = cc) := hcc
          clear hcc
          go_wp2_with fail
          go_loopw [7, 8] (fun s t wr => ∃ (a : Nat) (ys : List Nat), a ≤ N ∧ s = .int .i64 a ∧ t = .int .i64 ((a : Int) + (cc : Int)) ∧ Hid (a % cc = 0) ∧ Hid (OwnF wr g ys) ∧ Hid (Mix zs ys 0 N) ∧ Hid (Blk (at0 ys) cc 0 a) ∧ Hid (Blk (at0 ys) bs a N) ∧ w.grownBy wr (some g)) (fun s _ _ => N - (intOf s).toNat)
          case atStart => exact ⟨0, ys, Nat.zero_le _, rfl, by go_num, Nat.zero_mod _, ho, hm, fun x y g1 g2 g3 _ => by omega, hk, hg⟩
          case round =>
            clear ho hm hk hg
            obtain ⟨a, ys, ha, rfl, rfl, hcm, ho, hm, hk, hr, hg⟩ := hrel
            have hl : Hid (ys.length = N) := hm.out.len.trans HN.out
            by_cases e : a + cc ≤ N
            · have e' : (a : Int) + (cc : Int) ≤ (N : Int) := by omega
              have hc := symMerge_any g cap 1000 ys a (a + bs) (a + cc) wr (by have := hl.out; omega) ho.out (hm.out.fits HF.out) (by have := hl.out; omega) (by omega) (by have := HC.out; omega) (by have := hl.out; omega) (blk_one T2.out hr.out hcm.out (by have := HC.out; omega)) (blk_two T2.out hr.out hcm.out (Nat.le_refl _) e)
              rw [hl.out, show ((a + bs : Nat) : Int) = (a : Int) + (bs : Int) by omega, show ((a + cc : Nat) : Int) = (a : Int) + (cc : Int) by omega] at hc
              go_wp2_with (go_at_call 30; refine hc.mono ?_; rintro e w1 ⟨rfl, ⟨xs, ho1, hm1, hs1⟩, hg1⟩; clear hc)
              go_roundw
              case rel => exact ⟨a + cc, xs, e, by go_num, by go_num, two_mod T2.out hcm.out, ho1, hm.out.trans (hm1.wide (Nat.zero_le _) e), blk_next (by have := T2.out; unfold Two at this; omega) hk.out hcm.out hm1 hs1, blk_rest hr.out hm1 (by omega), hg.trans hg1⟩
              case measure => simp [intOf]; omega
            · have e' : ¬ ((a : Int) + (cc : Int) ≤ (N : Int)) := by omega
              by_cases k : a + bs < N
              · have k' : (a : Int) + (bs : Int) < (N : Int) := by omega
                have hc := symMerge_any g cap 1000 ys a (a + bs) N wr (by have := hl.out; omega) ho.out (hm.out.fits HF.out) (by have := hl.out; omega) (by omega) k (by have := hl.out; omega) (blk_one T2.out hr.out hcm.out (by omega)) (blk_two T2.out hr.out hcm.out (by omega) (Nat.le_refl _))
                rw [hl.out, show ((a + bs : Nat) : Int) = (a : Int) + (bs : Int) by omega] at hc
                go_wp2_with (go_at_call 30; refine hc.mono ?_; rintro e w1 ⟨rfl, ⟨xs, ho1, hm1, hs1⟩, hg1⟩; clear hc)
                go_roundw
                case rel => exact ⟨cc, xs, by have := HC.out; go_num, by have := T2.out; unfold Two at this; show cc = 20 ∨ cc = 40 ∨ cc = 80 ∨ cc = 160; omega, ho1, hm.out.trans (hm1.wide (Nat.zero_le _) (Nat.le_refl _)), blk_next (by have := T2.out; unfold Two at this; omega) hk.out hcm.out hm1 hs1, hg.trans hg1⟩
                case measure => have := HC.out; simp [intOf]; omega
              · have k' : ¬ ((a : Int) + (bs : Int) < (N : Int)) := by omega
                go_wp2_with fail
                go_roundw
                case rel => exact ⟨cc, ys, by have := HC.out; go_num, by have := T2.out; unfold Two at this; show cc = 20 ∨ cc = 40 ∨ cc = 80 ∨ cc = 160; omega, ho, hm, blk_end T2.out hk.out hr.out hcm.out (by omega), hg⟩
                case measure => have := HC.out; simp [intOf]; omega
        · have d' : ¬ ((bs : Int) < (N : Int)) := by omega
          go_wp2_with fail
          go_end0
          exact ⟨rfl, ⟨ys, ho, hm, blk_all hk.out (by omega)⟩, hg⟩
end Go.Proofs.Ytmagldelgnkkfaa
