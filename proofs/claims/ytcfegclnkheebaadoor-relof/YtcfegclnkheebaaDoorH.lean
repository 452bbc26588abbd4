/-
  The walk of Plus of the document's own answers.
-/
import Derived.Test.YtcfegclnkheebaaDoorG
import Derived.Test.YtcfegclnkheebaaDoorW
import Derived.Deep.LoopGhost
import Derived.Deep.RegionWith
namespace Go.Proofs.YtcfegclnkheebaaDoor
open Go.RowKit

theorem Que.tail {w : World} {base : Nat} {b off n cap j : Nat} {ns : List Nat} (h : Que w base (.slice (some ⟨b, off, none⟩) n cap) (j :: ns)) (ao : Option Addr) (ha : cap - 1 ≠ 0 → ao = some ⟨b, off + 1, none⟩) : Que w base (.slice ao ns.length (cap - 1)) ns := by
  obtain ⟨ao', cap', e, h⟩ := h
  simp only [Value.slice.injEq] at e
  obtain ⟨rfl, rfl, rfl⟩ := e
  rcases h with ⟨_, h⟩ | ⟨b', off', cur, e1, e2, e3, e4, e5, e6⟩
  · simp at h
  · simp only [Option.some.injEq, Addr.mk.injEq, and_true] at e1
    obtain ⟨rfl, rfl⟩ := e1
    simp only [List.length_cons] at e4 e6
    refine ⟨ao, cap - 1, rfl, ?_⟩
    by_cases hc : cap - 1 = 0
    · exact Or.inl ⟨hc, List.eq_nil_of_length_eq_zero (by omega)⟩
    · refine Or.inr ⟨b, off + 1, cur, ha hc, e2, e3, by omega, by omega, fun i hi => ?_⟩
      have := e6 (i + 1) (by omega)
      rw [show off + 1 + i = off + (i + 1) by omega, this]
      simp

theorem OwnU.alloc {w : World} {g : Nat} {zs : List Nat} (h : OwnU w g zs) (o : Obj) : OwnU (w.alloc o) g zs := (Below.heap_alloc w o g h.lt).trans h
theorem start_put {R : Nat → Nat → Bool} {n i k : Nat} {G : Nat → Nat → Bool} {ns : List Nat} (h : Start R n i (G i) ns k) (hk : k < n) (hr : R i k = true) : Start R n i ((fun a b => G a b || decide (a = i ∧ b = k)) i) (ns ++ [k]) (k + 1) := by
  have := h.put hk hr
  rw [← row_put G i k] at this; exact this
theorem look_put {R : Nat → Nat → Bool} {n i j k : Nat} {G : Nat → Nat → Bool} {ns : List Nat} (h : Look R n i (G i) ns j k) (hk : k < n) (hr : R j k = true) (hg : G i k = false) : Look R n i ((fun a b => G a b || decide (a = i ∧ b = k)) i) (ns ++ [k]) j (k + 1) := by
  have := h.put hk hr hg
  rw [← row_put G i k] at this; exact this

set_option maxHeartbeats 4000000 in
theorem refPlus_any (u : Value) (xs : List Nat) (w : World) (hu : Sl w u xs) :
    Calls Tryd.prog 26 #[u] w fun e w' => ∃ g zs G, e = .returned (.slice (some ⟨g, 0, none⟩) zs.length zs.length) ∧ OwnU w' g zs ∧ Bits (sz xs) G zs ∧ (∀ a b, a < sz xs → b < sz xs → (G a b = true ↔ Way (fun i k => hasB xs i k) (sz xs) a b)) ∧ w.heap.size ≤ g ∧ Below w.heap.size w w' := by
  obtain ⟨n, hn⟩ : ∃ n, sz xs = n := ⟨_, rfl⟩
  have hx := sz_le xs
  have n64 : n ≤ 64 := by omega
  obtain ⟨R, hR⟩ : ∃ F : Nat → Nat → Bool, F = fun (i k : Nat) => hasB xs i k := ⟨_, rfl⟩
  obtain ⟨i0, hi, hz0, hz1, hz2⟩ := info_parts Tryd.info43
  rw [hn, ← hR]
  have HR : Hid (∀ i k : Nat, R i k = hasB xs i k) := fun i k => by rw [hR]
  have HL : Hid (∀ a b : Nat, R a b = true → b < n) := fun a b h => by rw [HR.out] at h; rw [← hn]; exact (hasB_lt h).2
  clear hR
  go_enter Tryd.func26, Tryd.ntmps26
  go_wp2_with (first | (go_at_call 41; refine (refSize_any _ _ _ hu).mono ?_; rintro e w' ⟨rfl, hw⟩; subst w') | (at_make; refine wpList_make_full _ rfl (.tmp 12) (.tmp 12) 23 rfl w.heap.size 43 i0 (.int .u64 0) 1 Tryd.underlying23 hi hz0 hz1 .i64 .i64 _ _ n rfl rfl rfl rfl (by rw [hz2]; omega) (by unfold maxLen; omega) (Nat.le_refl _) ?_; intro w1 hown hgrow))
  obtain ⟨ho, _⟩ := own_of_row hown
  have hb1 : Below w.heap.size w w1 := (Below.refl _ _).grown hgrow (Nat.le_refl _) (fun k e => by simp at e)
  clear hown hgrow hi hz0 hz1 hz2 hx hn
  go_loopw [5] (fun s wr => ∃ (i : Nat) (zs : List Nat) (G : Nat → Nat → Bool), i ≤ n ∧ s = .int .i64 i ∧ OwnU wr w.heap.size zs ∧ Bits n G zs ∧ Below w.heap.size w wr ∧ (∀ a, a < i → ∀ b, b < n → (G a b = true ↔ Way R n a b)) ∧ (∀ a, i ≤ a → ∀ b, b < n → G a b = false)) (fun s _ => n - (intOf s).toNat)
  case atStart => exact ⟨0, _, _, Nat.zero_le _, rfl, ho, Bits.zero n, hb1, fun a ha => by omega, fun _ _ _ _ => rfl⟩
  case round =>
    clear ho hb1
    obtain ⟨i, zs, G, hin, rfl, ho, hbits, hb, hd, he⟩ := hrel
    by_cases hlt : i < n
    · have hlt' : (i : Int) < (n : Int) := by omega
      have hrest : Rest R n i G := ⟨hd, fun a ha b hb => he a (by omega) b hb⟩
      have hst : Start R n i (G i) [] 0 := Start.first (fun b hb => he i (Nat.le_refl _) b hb)
      clear hd he
      go_wp2_with fail
      go_loopw [6, 7] (fun q t ws => ∃ (k : Nat) (zs : List Nat) (G : Nat → Nat → Bool) (ns : List Nat), k ≤ n ∧ t = .int .i64 k ∧ OwnU ws w.heap.size zs ∧ Bits n G zs ∧ Below w.heap.size w ws ∧ Rest R n i G ∧ Start R n i (G i) ns k ∧ Que ws w.heap.size q ns) (fun _ t _ => n - (intOf t).toNat)
      case atStart => exact ⟨0, zs, G, [], Nat.zero_le _, rfl, ho, hbits, hb, hrest, hst, Que.nil _ _⟩
      case round =>
        clear ho hbits hb hrest hst
        obtain ⟨k, zs, G, ns, hkn, rfl, ho, hbits, hb, hrest, hst, hq⟩ := hrel
        by_cases hk : k < n
        · have hk' : (k : Int) < (n : Int) := by omega
          have hsu := hu.below hb
          have hl := hbits.1
          cases hx : hasB xs i k
          · go_wp2_with (go_at_call 20; refine (refHas_any _ _ _ _ _ hsu).mono ?_; rintro e w' ⟨rfl, hw⟩; subst w')
            go_roundw
            case rel => exact ⟨k + 1, zs, G, ns, by omega, by go_num, ho, hbits, hb, hrest, hst.skip ((HR.out i k).trans hx), hq⟩
            case measure => simp [intOf]; omega
          · go_wp2_with (first | (go_at_call 20; refine (refHas_any _ _ _ _ _ hsu).mono ?_; rintro e w' ⟨rfl, hw⟩; subst w') | (go_at_call 36; rw [← hl]; refine (refPut_any _ _ _ _ _ _ ho hbits.2.1 (by omega) (by omega) (by omega)).mono ?_; rintro e w2 ⟨rfl, ho2, hg2⟩; have hb2 := below_own hb hg2 (Nat.le_refl _); have hq2 := hq.other ho hg2) | (at_builtin; go_loud (refine wpList_append_que _ rfl (.tmp 32) (.tmp 34) rfl w.heap.size _ ns rfl (hq2.alloc _) w2.heap.size 1 k rfl (by go_simp) (by have := hst.size; omega) (by have := hb2.size; simp; omega) ?_); intro v' w3 hq3 hg3))
            go_roundw
            case rel => exact ⟨k + 1, _, _, _, by omega, by go_num, hg3.own (ho2.alloc _), hbits.put hlt hk n64, hg3.below (hb2.alloc hb2.size _) (Nat.le_refl _) (by have := hb2.size; simp; omega), hrest.put, start_put hst hk ((HR.out i k).trans hx), hq3⟩
            case measure => simp [intOf]; omega
        · have e : k = n := by omega
          subst e
          have hsk := hst.seek
          clear hst
          go_wp2_with fail
          go_loopg [6] (2 * cnt k (G i) + ns.length) (fun gk q ws => ∃ (zs : List Nat) (G : Nat → Nat → Bool) (ns : List Nat), OwnU ws w.heap.size zs ∧ Bits k G zs ∧ Below w.heap.size w ws ∧ Rest R k i G ∧ Seek R k i (G i) ns ∧ Que ws w.heap.size q ns ∧ 2 * cnt k (G i) + ns.length ≤ gk)
          case atStart => exact ⟨zs, G, ns, ho, hbits, hb, hrest, hsk, hq, Nat.le_refl _⟩
          case round =>
            clear ho hbits hb hrest hsk hq
            obtain ⟨zs, G, ns, ho, hbits, hb, hrest, hsk, hq, hgk⟩ := hrel
            cases ns with
            | nil =>
              obtain ⟨ao, cap, rfl, hq'⟩ := hq
              go_wp2_with fail
              go_roundw
              case rel =>
                refine ⟨i + 1, zs, G, by omega, by go_num, ho, hbits, hb, fun a ha b hb' => ?_, fun a ha b hb' => hrest.2 a (by omega) b hb'⟩
                by_cases e : a = i
                · subst e; exact hsk.fin HL.out b hb'
                · exact hrest.1 a (by omega) b hb'
              case measure => simp [intOf]; omega
            | cons j ns =>
              obtain ⟨b, off, cap, rfl, hcj, hcap⟩ := hq.cell (j := 0) (by simp)
              have hlk := hsk.pop
              clear hsk
              simp only [List.length_cons, List.getD_cons_zero, Nat.add_zero] at hcj hcap hgk hq
              have hlen : (0 : Int) < ((ns.length + 1 : Nat) : Int) := by omega
              have hqs : (cap = 1 ∧ Que wr w.heap.size (.slice (some ⟨b, off, none⟩) ns.length 0) ns) ∨ (¬ cap = 1 ∧ Que wr w.heap.size (.slice (some ⟨b, off + 1, none⟩) ns.length (cap - 1)) ns) := by
                by_cases hc : cap = 1
                · subst hc; exact Or.inl ⟨rfl, hq.tail _ (fun h => absurd rfl h)⟩
                · exact Or.inr ⟨hc, hq.tail _ (fun _ => rfl)⟩
              clear hq
              rcases hqs with ⟨hc1, hq⟩ | ⟨hc1, hq⟩
              all_goals
                go_wp2_with fail
                go_loopw [6, 9] (fun q t ws => ∃ (c : Nat) (zs : List Nat) (G : Nat → Nat → Bool) (ns : List Nat), c ≤ k ∧ t = .int .i64 c ∧ OwnU ws w.heap.size zs ∧ Bits k G zs ∧ Below w.heap.size w ws ∧ Rest R k i G ∧ Look R k i (G i) ns j c ∧ Que ws w.heap.size q ns ∧ 2 * cnt k (G i) + ns.length < gk) (fun _ t _ => k - (intOf t).toNat)
                case atStart => exact ⟨0, zs, G, ns, Nat.zero_le _, rfl, ho, hbits, hb, hrest, hlk, hq, by omega⟩
                case round =>
                  clear ho hbits hb hrest hlk hq hcj hcap hgk hlen hc1
                  obtain ⟨c, zs, G, ns, hcn, rfl, ho, hbits, hb, hrest, hlk, hq, hgk⟩ := hrel
                  by_cases hc : c < k
                  · have hc' : (c : Int) < (k : Int) := by omega
                    have hsu := hu.below hb
                    have hl := hbits.1
                    have hso := Sl.own ho hbits.2.1 (by omega) k
                    rw [hl] at hso
                    have hho := hbits.has n64 i c
                    rw [decide_eq_true hlt, decide_eq_true hc, Bool.true_and, Bool.true_and] at hho
                    cases hx : hasB xs j c
                    · go_wp2_with (go_at_call 20; refine (refHas_any _ _ _ _ _ hsu).mono ?_; rintro e w' ⟨rfl, hw⟩; subst w')
                      go_roundw
                      case rel => first | exact ⟨c + 1, zs, G, ns, by omega, by go_num, ho, hbits, hb, hrest, hlk.skip (fun h => by rw [HR.out, hx] at h; simp at h), hq, hgk⟩ | ((repeat apply Exists.intro); exact ⟨⟨c + 1, zs, G, ns, by omega, by go_num, ho, hbits, hb, hrest, hlk.skip (fun h => by rw [HR.out, hx] at h; simp at h), hq, hgk⟩, rfl⟩)
                      case measure => simp [intOf]; omega
                    · cases hy : G i c
                      · rw [hy] at hho
                        go_wp2_with (first | (go_at_call_of 20 u; refine (refHas_any _ _ _ _ _ hsu).mono ?_; rintro e w' ⟨rfl, hw⟩; subst w') | (go_at_call 20; refine (refHas_any _ _ _ _ _ hso).mono ?_; rintro e w' ⟨rfl, hw⟩; subst w') | (go_at_call 36; rw [← hl]; refine (refPut_any _ _ _ _ _ _ ho hbits.2.1 (by omega) (by omega) (by omega)).mono ?_; rintro e w2 ⟨rfl, ho2, hg2⟩; have hb2 := below_own hb hg2 (Nat.le_refl _); have hq2 := hq.other ho hg2) | (at_builtin; refine wpList_append_que _ rfl (.tmp 64) (.tmp 66) rfl w.heap.size _ ns rfl (hq2.alloc _) w2.heap.size 1 c rfl (by go_simp) (by have := hlk.size; omega) (by have := hb2.size; simp; omega) ?_; intro v' w3 hq3 hg3))
                        have hcp := cnt_put hc hy
                        have hcr : cnt k ((fun a b => G a b || decide (a = i ∧ b = c)) i) = cnt k (fun b => G i b || decide (b = c)) := cnt_congr (fun b _ => by simp)
                        go_roundw
                        case rel => first | exact ⟨c + 1, _, _, _, by omega, by go_num, hg3.own (ho2.alloc _), hbits.put hlt hc n64, hg3.below (hb2.alloc hb2.size _) (Nat.le_refl _) (by have := hb2.size; simp; omega), hrest.put, look_put hlk hc ((HR.out j c).trans hx) hy, hq3, by rw [hcr, List.length_append, List.length_singleton]; omega⟩ | ((repeat apply Exists.intro); exact ⟨⟨c + 1, _, _, _, by omega, by go_num, hg3.own (ho2.alloc _), hbits.put hlt hc n64, hg3.below (hb2.alloc hb2.size _) (Nat.le_refl _) (by have := hb2.size; simp; omega), hrest.put, look_put hlk hc ((HR.out j c).trans hx) hy, hq3, by rw [hcr, List.length_append, List.length_singleton]; omega⟩, rfl⟩)
                        case measure => simp [intOf]; omega
                      · rw [hy] at hho
                        go_wp2_with (first | (go_at_call_of 20 u; refine (refHas_any _ _ _ _ _ hsu).mono ?_; rintro e w' ⟨rfl, hw⟩; subst w') | (go_at_call 20; refine (refHas_any _ _ _ _ _ hso).mono ?_; rintro e w' ⟨rfl, hw⟩; subst w'))
                        go_roundw
                        case rel => first | exact ⟨c + 1, zs, G, ns, by omega, by go_num, ho, hbits, hb, hrest, hlk.skip (fun _ => hy), hq, hgk⟩ | ((repeat apply Exists.intro); exact ⟨⟨c + 1, zs, G, ns, by omega, by go_num, ho, hbits, hb, hrest, hlk.skip (fun _ => hy), hq, hgk⟩, rfl⟩)
                        case measure => simp [intOf]; omega
                  · have e : c = k := by omega
                    subst e
                    go_wp2_with fail
                    go_roundg (2 * cnt c (G i) + ns.length)
                    case measure => exact hgk
                    case rel => exact ⟨zs, G, ns, ho, hbits, hb, hrest, hlk.done, hq, Nat.le_refl _⟩
    · go_wp2_with fail
      go_ret
      have e : i = n := by omega
      subst e
      exact ⟨w.heap.size, zs, G, by rw [hbits.1]; rfl, ho, hbits, fun a b ha hb' => hd a ha b hb', Nat.le_refl _, hb⟩
end Go.Proofs.YtcfegclnkheebaaDoor
