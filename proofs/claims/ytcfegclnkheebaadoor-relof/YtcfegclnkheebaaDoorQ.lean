/-
  What is asked of the program's own functions of layer 2, each by a contract; and the walks of the statements over such contracts.
-/
import Derived.Test.YtcfegclnkheebaaDoorPi
import Derived.Test.YtcfegclnkheebaaDoorY
namespace Go.Proofs.YtcfegclnkheebaaDoor
open Go.RowKit

/-- The rows zs as a relation. -/
def relB (zs : List Nat) (i k : Nat) : Bool := hasB zs i k
/-- A call hands back rows with just these bits, in memory that is read alone from there on. -/
def Gives (f : Nat) (args : Array Value) (w : World) (n : Nat) (F : Nat → Nat → Bool) : Prop :=
  Calls Tryd.prog f args w fun e w' => ∃ (v : Value) (ys : List Nat), e = .returned v ∧ Sl w' v ys ∧ Bits n F ys ∧ Below w.heap.size w w'
/-- The ways of a relation, as bits. -/
def wayB (R : Nat → Nat → Bool) (n a b : Nat) : Bool := wayN R n n a b
structure Rel2 : Prop where
  has : ∀ (v : Value) (zs : List Nat) (i k : Int) (w : World), Sl w v zs → Calls Tryd.prog 19 #[v, .int .i64 i, .int .i64 k] w fun e w' => e = .returned (.bool (hasB zs i k)) ∧ Below w.heap.size w w'
  union : ∀ (u v : Value) (xs ys : List Nat) (w : World), Sl w u xs → Sl w v ys → Gives 13 #[u, v] w (max (sz xs) (sz ys)) (fun a b => relB xs a b || relB ys a b)
  inter : ∀ (u v : Value) (xs ys : List Nat) (w : World), Sl w u xs → Sl w v ys → Gives 15 #[u, v] w (max (sz xs) (sz ys)) (fun a b => relB xs a b && relB ys a b)
  minus : ∀ (u v : Value) (xs ys : List Nat) (w : World), Sl w u xs → Sl w v ys → Gives 16 #[u, v] w (max (sz xs) (sz ys)) (fun a b => relB xs a b && !relB ys a b)
  thn : ∀ (u v : Value) (xs ys : List Nat) (w : World), Sl w u xs → Sl w v ys → (_tab : Tab w := by repeat (first | assumption | (apply Tab.below; assumption))) → Gives 17 #[u, v] w (max (sz xs) (sz ys)) (viaB (relB xs) (relB ys) (max (sz xs) (sz ys)))
  back : ∀ (u : Value) (xs : List Nat) (w : World), Sl w u xs → (_tab : Tab w := by repeat (first | assumption | (apply Tab.below; assumption))) → Gives 21 #[u] w (sz xs) (fun a b => relB xs b a)
  plus : ∀ (u : Value) (xs : List Nat) (w : World), Sl w u xs → ∃ G : Nat → Nat → Bool, (∀ a b, a < sz xs → b < sz xs → (G a b = true ↔ Way (relB xs) (sz xs) a b)) ∧ Gives 25 #[u] w (sz xs) G
  star : ∀ (u : Value) (xs : List Nat) (w : World), Sl w u xs → ∃ G : Nat → Nat → Bool, (∀ a b, a < sz xs → b < sz xs → (G a b = true ↔ Way (relB xs) (sz xs) a b)) ∧ Gives 27 #[u] w (sz xs) (fun a b => G a b || decide (a = b))
  ring : ∀ (u : Value) (xs : List Nat) (w : World), Sl w u xs → ∃ r : Bool, (r = true ↔ ∃ a, a < sz xs ∧ Way (relB xs) (sz xs) a a) ∧ Calls Tryd.prog 29 #[u] w fun e w' => e = .returned (.bool r) ∧ Below w.heap.size w w'
  order : ∀ (u : Value) (xs : List Nat) (w : World), Sl w u xs → (_tab : Tab w := by repeat (first | assumption | (apply Tab.below; assumption))) → ∃ (l : List Nat) (ok : Bool), (ordL (relB xs) (sz xs) = if ok = true then some l else none) ∧ (ok = false → l = []) ∧ Calls Tryd.prog 23 #[u] w fun e w' => ∃ v, e = .returned (.tuple #[v, .bool ok]) ∧ SlI w' v l ∧ Below w.heap.size w w'
theorem bt {w w1 w2 : World} (h1 : Below w.heap.size w w1) (h2 : Below w1.heap.size w1 w2) : Below w.heap.size w w2 := h1.trans (h2.mono h1.size)
theorem Bits.sz {n : Nat} {G : Nat → Nat → Bool} {zs : List Nat} (h : Bits n G zs) (hn : n ≤ 64) : sz zs = n := by unfold Go.Proofs.YtcfegclnkheebaaDoor.sz; rw [h.1]; omega
theorem Bits.rel {n : Nat} {G : Nat → Nat → Bool} {zs : List Nat} (h : Bits n G zs) (hn : n ≤ 64) {a b : Nat} (ha : a < n) (hb : b < n) : relB zs a b = G a b := by
  unfold relB; rw [h.has hn]; simp [ha, hb]
theorem relB_in (zs : List Nat) : In (sz zs) (relB zs) := fun _ _ h => hasB_lt h
theorem way_congr {R S : Nat → Nat → Bool} {n a b : Nat} (hR : In n R) (hS : In n S) (h : ∀ a b, a < n → b < n → R a b = S a b) : Way R n a b ↔ Way S n a b := by
  have go : ∀ {R S : Nat → Nat → Bool}, In n R → (∀ a b, a < n → b < n → R a b = S a b) → Way R n a b → Way S n a b := by
    intro R S hR h hw
    exact hw.ind (fun x => Way S n a x) (fun x hx => Way.one (by rw [← h a x (hR a x hx).1 (hR a x hx).2]; exact hx)) (fun x y hx hw hr => hw.more hx (by rw [← h x y hx (hR x y hr).2]; exact hr))
  exact ⟨go hR h, go hS (fun a b ha hb => (h a b ha hb).symm)⟩

theorem SlI.two {w : World} {v : Value} {zs : List Nat} (h : SlI w v zs) (hn : 0 < zs.length) : ∃ b off cap, v = .slice (some ⟨b, off, none⟩) zs.length cap ∧ b < w.heap.size ∧ ∀ i, i < zs.length → w.cell? ⟨b, off + i, none⟩ = some (.int .i64 ((zs.getD i 0 : Nat) : Int)) := by
  obtain ⟨_, a, cap, rfl, h⟩ := h
  rcases h with h | ⟨b, off, rfl, e2, e3⟩
  · rw [h] at hn; simp at hn
  · exact ⟨b, off, cap, rfl, e2, e3⟩

def Awake : Prop := ∀ w : World, Tab w → Calls Tryd.prog 9 #[] w fun e w' => e = .returned (.bool true) ∧ Below w.heap.size w w'
theorem Sl.nil (w : World) : Sl w (.slice none 0 0) [] := ⟨fun i => by simp, by simp, none, 0, rfl, Or.inl rfl⟩
set_option maxHeartbeats 1600000 in
theorem relTurned_walk (C : Rel2) (awake : Awake) (a : Option Addr) (cap : Nat) (zs : List Nat) (w : World) (tab : Tab w) (hu : Sl w (.slice a zs.length cap) zs) (hc : zs.length ≤ cap) (hz : a = none → cap = 0) :
    Calls Tryd.prog 8 #[.slice a zs.length cap] w fun e w' => e = .returned (.bool true) ∧ Below w.heap.size w w' := by
  go_enter Tryd.func8, Tryd.ntmps8
  go_wp2_with fail
  refine (awake _ tab).mono ?_
  rintro e w0 ⟨rfl, l0⟩
  have hu0 := hu.below l0
  go_wp2_with fail
  refine (few_any a cap zs _ hu0 hc hz).mono ?_
  rintro e w1 ⟨r, rfl, _, l1, s1⟩
  generalize zs.take 70 = xs at s1
  clear hu hu0 hc hz
  have n64 := sz_le xs
  have hin := relB_in xs
  go_wp2_with fail
  obtain ⟨G, hG, gG⟩ := C.plus _ _ _ s1
  refine gG.mono ?_
  rintro e w2 ⟨p, ps, rfl, s2, b2, l2⟩
  have r2 := s1.below l2
  go_wp2_with fail
  refine (C.back _ _ _ s2).mono ?_
  rintro e w3 ⟨q, qs, rfl, s3, b3, l3⟩
  have r3 := r2.below l3
  go_wp2_with fail
  refine (C.back _ _ _ r3).mono ?_
  rintro e w4 ⟨t, ts, rfl, s4, b4, l4⟩
  have r4 := r3.below l4
  have q4 := s3.below l4
  go_wp2_with fail
  obtain ⟨G', hG', gG'⟩ := C.plus _ _ _ s4
  refine gG'.mono ?_
  rintro e w5 ⟨o, os, rfl, s5, b5, l5⟩
  have r5 := r4.below l5
  have q5 := q4.below l5
  go_wp2_with fail
  have eq : qs = os := by
    have zp : sz ps = sz xs := b2.sz n64
    have zt : sz ts = sz xs := b4.sz n64
    rw [zp] at b3
    rw [zt] at b5 hG'
    refine b3.same (b5.congr (fun a b ha hb => ?_))
    rw [Bool.eq_iff_iff, hG' a b ha hb, b2.rel n64 hb ha, hG b a hb ha]
    have e1 : Way (relB ts) (sz xs) a b ↔ Way (fun i k => relB xs k i) (sz xs) a b :=
      way_congr (by have := relB_in ts; rw [zt] at this; exact this) (fun a b h => (hin b a h).symm) (fun a b ha hb => b4.rel n64 ha hb)
    rw [e1]
    exact ⟨fun h => way_turn (R := fun i k => relB xs k i) h, fun h => way_turn h⟩
  refine (refSame_any _ _ _ _ _ q5 s5).mono ?_
  rintro e w6 ⟨rfl, l6⟩
  rw [decide_eq_true eq]
  have r6 := r5.below l6
  go_wp2_with fail
  obtain ⟨ra, hra, cra⟩ := C.ring _ _ _ r6
  refine cra.mono ?_
  rintro e w7 ⟨rfl, l7⟩
  have r7 := r6.below l7
  go_wp2_with fail
  refine (C.back _ _ _ r7).mono ?_
  rintro e w8 ⟨t2, ts2, rfl, s8, b8, l8⟩
  have r8 := r7.below l8
  go_wp2_with fail
  obtain ⟨rb, hrb, crb⟩ := C.ring _ _ _ s8
  refine crb.mono ?_
  rintro e w9 ⟨rfl, l9⟩
  have r9 := r8.below l9
  have er : ra = rb := by
    have zt : sz ts2 = sz xs := b8.sz n64
    rw [zt] at hrb
    rw [Bool.eq_iff_iff, hra, hrb]
    have e1 : ∀ a b, Way (relB ts2) (sz xs) a b ↔ Way (fun i k => relB xs k i) (sz xs) a b := fun a b =>
      way_congr (by have := relB_in ts2; rw [zt] at this; exact this) (fun a b h => (hin b a h).symm) (fun a b ha hb => b8.rel n64 ha hb)
    constructor
    · rintro ⟨a, ha, hw⟩; exact ⟨a, ha, (e1 a a).2 (way_turn hw)⟩
    · rintro ⟨a, ha, hw⟩; exact ⟨a, ha, way_turn (R := fun i k => relB xs k i) ((e1 a a).1 hw)⟩
  subst er
  clear hra hrb
  go_wp2_with fail
  refine (C.back _ _ _ r9).mono ?_
  rintro e w10 ⟨t3, ts3, rfl, s10, b10, l10⟩
  have r10 := r9.below l10
  go_wp2_with fail
  refine (C.back _ _ _ s10).mono ?_
  rintro e w11 ⟨t4, ts4, rfl, s11, b11, l11⟩
  have r11 := r10.below l11
  go_wp2_with fail
  refine (C.union _ _ _ _ _ r11 (Sl.nil _)).mono ?_
  rintro e w12 ⟨t5, ts5, rfl, s12, b12, l12⟩
  have s11' := s11.below l12
  have eq2 : ts4 = ts5 := by
    have z10 : sz ts3 = sz xs := b10.sz n64
    rw [z10] at b11
    have zn : max (sz xs) (sz []) = sz xs := by simp [sz]
    rw [zn] at b12
    refine b11.same (b12.congr (fun a b ha hb => ?_))
    rw [b10.rel n64 hb ha]
    have : relB [] a b = false := by unfold relB; exact hasB_out (by simp)
    rw [this]; simp
  go_wp2_with fail
  refine (refSame_any _ _ _ _ _ s11' s12).mono ?_
  rintro e w13 ⟨rfl, l13⟩
  rw [decide_eq_true eq2]
  go_wp2_with fail
  go_ret
  exact ⟨rfl, bt (bt (bt (bt (bt (bt (bt (bt (bt (bt (bt (bt (bt l0 l1) l2) l3) l4) l5) l6) l7) l8) l9) l10) l11) l12) l13⟩
end Go.Proofs.YtcfegclnkheebaaDoor
