/-
  The walk of the statements' own awake over contracts of the program's own functions.
-/
import Derived.Test.YtcfegclnkheebaaDoorV
namespace Go.Proofs.YtcfegclnkheebaaDoor
open Go.RowKit

theorem freeB_congr {R S : Nat → Nat → Bool} {n : Nat} (h : ∀ i k, i < n → k < n → R i k = S i k) (l : List Nat) {k : Nat} (hk : k < n) : freeB R n l k = freeB S n l k := by
  rw [Bool.eq_iff_iff, freeB_iff, freeB_iff]
  constructor
  · rintro ⟨h1, h2⟩; exact ⟨h1, fun i hi hl => by rw [← h i k hi hk]; exact h2 i hi hl⟩
  · rintro ⟨h1, h2⟩; exact ⟨h1, fun i hi hl => by rw [h i k hi hk]; exact h2 i hi hl⟩
theorem leastFrom_congr {R S : Nat → Nat → Bool} {n : Nat} (h : ∀ i k, i < n → k < n → R i k = S i k) (l : List Nat) (d : Nat) (hd : d ≤ n) : leastFrom R n l d = leastFrom S n l d := by
  induction d with
  | zero => rfl
  | succ d ih => rw [leastFrom, leastFrom, freeB_congr h l (by omega), ih (by omega)]
theorem ordF_congr {R S : Nat → Nat → Bool} {n : Nat} (h : ∀ i k, i < n → k < n → R i k = S i k) (f : Nat) (l : List Nat) : ordF R n f l = ordF S n f l := by
  induction f generalizing l with
  | zero => rfl
  | succ f ih => rw [ordF, ordF, leastFrom_congr h l n (Nat.le_refl _), ih]
def three : List (Int × Int) := [(0, 1), (1, 2)]
theorem three_order : ordL (ofF three) 3 = some [0, 1, 2] := by decide +kernel

set_option maxHeartbeats 1600000 in
theorem awake_walk (C : Rel2) (D : OfC) : Awake := by
  intro w tab0
  have taba : Tab (w.alloc (.cells #[.int .i64 0, .int .i64 1, .int .i64 1, .int .i64 2] 45)) := Tab.below ((Below.refl _ _).alloc (Nat.le_refl _) _) tab0
  have hp : SlP (w.alloc (.cells #[.int .i64 0, .int .i64 1, .int .i64 1, .int .i64 2] 45)) (.slice (some ⟨w.heap.size, 0, none⟩) 2 2) three := by
    refine ⟨by simp [three], _, 2, rfl, Or.inr ⟨w.heap.size, 0, rfl, by simp, fun i hi => ?_⟩⟩
    match i, hi with
    | 0, _ => constructor <;> go_simp <;> rfl
    | 1, _ => constructor <;> go_simp <;> rfl
  go_enter Tryd.func9, Tryd.ntmps9
  go_wp2_with fail
  refine (D _ _ _ _ hp).mono ?_
  rintro e w1 ⟨v_r, ys, c, rfl, s1, h1, l1⟩
  have h1' : c = 0 ∧ Bits 3 (ofF three) ys := by
    rcases h1 with ⟨_, _, h⟩ | ⟨_, _, _, p, hp, hb⟩ | ⟨rfl, hb, _⟩
    · omega
    · exfalso
      simp only [three, List.mem_cons, List.not_mem_nil, or_false] at hp
      unfold badP at hb
      rcases hp with rfl | rfl <;> simp at hb
    · exact ⟨rfl, hb⟩
  clear h1
  obtain ⟨rfl, b1⟩ := h1'
  have z3 : sz ys = 3 := b1.sz (by omega)
  go_wp2_with fail
  obtain ⟨l, ok, ho, _, co⟩ := C.order _ _ _ s1
  refine co.mono ?_
  rintro e w2 ⟨v_l, rfl, i2, l2⟩
  have hord : ordL (relB ys) 3 = some [0, 1, 2] := by
    rw [← three_order]; exact ordF_congr (fun i k hi hk => b1.rel (by omega) hi hk) 3 []
  rw [z3, hord] at ho
  have hok : ok = true ∧ l = [0, 1, 2] := by
    cases ok
    · simp at ho
    · simp at ho; exact ⟨rfl, ho.symm⟩
  obtain ⟨rfl, rfl⟩ := hok
  clear ho co
  have s2 := s1.below l2
  go_wp2_with fail
  obtain ⟨G, hG, cG⟩ := C.plus _ _ _ s2
  refine cG.mono ?_
  rintro e w3 ⟨v_p, ps, rfl, s3, b3, l3⟩
  have i3 := i2.below l3
  rw [z3] at b3 hG
  go_wp2_with fail
  refine (C.has _ _ 0 2 _ s3).mono ?_
  rintro e w4 ⟨rfl, l4⟩
  have i4 := i3.below l4
  have r01 : relB ys 0 1 = true := by rw [b1.rel (by omega) (by omega) (by omega)]; decide
  have r12 : relB ys 1 2 = true := by rw [b1.rel (by omega) (by omega) (by omega)]; decide
  have hh : hasB ps 0 2 = true := by
    have := b3.has (by omega) 0 2
    rw [(hG 0 2 (by omega) (by omega)).2 ((Way.one r01).more (by omega) r12)] at this
    exact this
  rw [hh]
  clear hh r01 r12 hG cG hord
  obtain ⟨b, off, cp, rfl, hbl, hcells⟩ := i4.two (by simp)
  have c2 : w4.cell? ⟨b, off + 2, none⟩ = some (.int .i64 2) := hcells 2 (by simp)
  clear hcells
  simp only [List.length_cons, List.length_nil] at *
  go_wp2_with fail
  go_ret
  exact ⟨rfl, bt (bt (bt (bt ((Below.refl _ _).alloc (Nat.le_refl _) _) l1) l2) l3) l4⟩
end Go.Proofs.YtcfegclnkheebaaDoor
