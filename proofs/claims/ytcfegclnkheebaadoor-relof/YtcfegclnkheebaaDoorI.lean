/-
  The walks of Star and Ring of the document's own answers.
-/
import Derived.Test.YtcfegclnkheebaaDoorH
namespace Go.Proofs.YtcfegclnkheebaaDoor
open Go.RowKit

set_option maxHeartbeats 1600000 in
theorem refStar_any (u : Value) (xs : List Nat) (w : World) (hu : Sl w u xs) :
    Calls Tryd.prog 28 #[u] w fun e w' => ∃ (g : Nat) (zs : List Nat) (G : Nat → Nat → Bool), e = .returned (.slice (some ⟨g, 0, none⟩) zs.length zs.length) ∧ OwnU w' g zs ∧ Bits (sz xs) (fun a b => G a b || decide (a = b)) zs ∧ (∀ a b, a < sz xs → b < sz xs → (G a b = true ↔ Way (fun i k => hasB xs i k) (sz xs) a b)) ∧ w.heap.size ≤ g ∧ Below w.heap.size w w' := by
  have hx := sz_le xs
  go_enter Tryd.func28, Tryd.ntmps28
  go_wp2_with (go_at_call 26; refine (refPlus_any _ _ _ hu).mono ?_; rintro e w1 ⟨g, ys, G, rfl, ho, hbits, hG, hg, hb⟩)
  obtain ⟨n, hn⟩ : ∃ n, sz xs = n := ⟨_, rfl⟩
  rw [hn] at hbits hx
  have hl := hbits.1
  rw [hl]
  go_loopw [4] (fun s wr => ∃ (i : Nat) (zs : List Nat), i ≤ n ∧ s = .int .i64 i ∧ OwnU wr g zs ∧ Bits n (fun a b => G a b || (decide (a = b) && decide (a < i))) zs ∧ Below w.heap.size w wr) (fun s _ => n - (intOf s).toNat)
  case atStart => exact ⟨0, ys, Nat.zero_le _, rfl, ho, hbits.congr (fun a b _ _ => by simp), hb⟩
  case round =>
    clear ho hbits hb hl
    obtain ⟨i, zs, hin, rfl, ho, hbits, hb⟩ := hrel
    by_cases hlt : i < n
    · have hlt' : (i : Int) < (n : Int) := by omega
      have hl := hbits.1
      go_wp2_with (go_at_call 36; rw [← hl]; refine (refPut_any _ _ _ _ _ _ ho hbits.2.1 (by omega) (by omega) (by omega)).mono ?_; rintro e w2 ⟨rfl, ho2, hg2⟩)
      go_roundw
      case rel =>
        refine ⟨i + 1, _, by omega, by go_num, ho2, (hbits.put hlt hlt hx).congr (fun a b _ _ => ?_), below_own hb hg2 hg⟩
        by_cases e : a = b
        · subst e
          by_cases e2 : a = i
          · subst e2; simp
          · have : decide (a < i + 1) = decide (a < i) := by rw [decide_eq_decide]; omega
            rw [this]; simp [e2]
        · have : ¬ (a = i ∧ b = i) := by omega
          simp [e, this]
      case measure => simp [intOf]; omega
    · go_wp2_with fail
      go_ret
      have e : i = n := by omega
      subst e
      exact ⟨g, zs, G, by rw [hbits.1]; rfl, ho, (by rw [hn]; exact hbits.congr (fun a b ha _ => by simp [ha])), hG, hg, hb⟩

set_option maxHeartbeats 1600000 in
theorem refRing_any (u : Value) (xs : List Nat) (w : World) (hu : Sl w u xs) :
    Calls Tryd.prog 30 #[u] w fun e w' => ∃ r, e = .returned (.bool r) ∧ (r = true ↔ ∃ a, a < sz xs ∧ Way (fun i k => hasB xs i k) (sz xs) a a) ∧ Below w.heap.size w w' := by
  have hx := sz_le xs
  obtain ⟨n, hn⟩ : ∃ n, sz xs = n := ⟨_, rfl⟩
  rw [hn]
  have HN : Hid (sz xs = n) := hn
  clear hn
  go_enter Tryd.func30, Tryd.ntmps30
  go_wp2_with (go_at_call 26; refine (refPlus_any _ _ _ hu).mono ?_; rintro e w1 ⟨g, ys, G, rfl, ho, hbits, hG, hg, hb⟩)
  rw [HN.out] at hbits hx hG
  have hl := hbits.1
  have hso := Sl.own ho hbits.2.1 (by omega) ys.length
  rw [hl] at hso
  rw [hl]
  have HG : Hid (∀ a b, a < n → b < n → (G a b = true ↔ Way (fun i k => hasB xs i k) n a b)) := hG
  clear hG
  go_loopw [4] (fun s wr => ∃ (i : Nat), i ≤ n ∧ s = .int .i64 i ∧ Hid (∀ a, a < i → G a a = false) ∧ w1 = wr) (fun s _ => n - (intOf s).toNat)
  case atStart => exact ⟨0, Nat.zero_le _, rfl, fun a ha => by omega, rfl⟩
  case round =>
    obtain ⟨i, hin, rfl, hno, hwr⟩ := hrel
    subst hwr
    by_cases hlt : i < n
    · have hlt' : (i : Int) < (n : Int) := by omega
      have hho := hbits.has hx i i
      rw [decide_eq_true hlt, Bool.true_and, Bool.true_and] at hho
      cases hy : G i i
      · rw [hy] at hho
        go_wp2_with (go_at_call 20; refine (refHas_any _ _ _ _ _ hso).mono ?_; rintro e w' ⟨rfl, hw⟩; subst w')
        go_roundw
        case rel =>
          refine ⟨i + 1, by omega, by go_num, fun a ha => ?_, by trivial⟩
          by_cases e : a = i
          · subst e; exact hy
          · exact hno.out a (by omega)
        case measure => simp [intOf]; omega
      · rw [hy] at hho
        go_wp2_with (go_at_call 20; refine (refHas_any _ _ _ _ _ hso).mono ?_; rintro e w' ⟨rfl, hw⟩; subst w')
        go_ret
        exact ⟨true, rfl, ⟨fun _ => ⟨i, hlt, (HG.out i i hlt hlt).1 hy⟩, fun _ => rfl⟩, hb⟩
    · go_wp2_with fail
      go_ret
      refine ⟨false, rfl, ⟨fun h => by simp at h, fun ⟨a, ha, hw⟩ => ?_⟩, hb⟩
      have := (HG.out a a ha ha).2 hw
      rw [hno.out a (by omega)] at this
      exact this
end Go.Proofs.YtcfegclnkheebaaDoor
