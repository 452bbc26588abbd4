/-
  The walks of the statement RelOf and of the statements' own awake over contracts of the program's own functions.
-/
import Derived.Test.YtcfegclnkheebaaDoorQ
namespace Go.Proofs.YtcfegclnkheebaaDoor
open Go.RowKit

/-- What Of answers: an error's number, or the relation. -/
def ofSays (n : Int) (ps : List (Int × Int)) (c : Int) (ys : List Nat) : Prop :=
  (c = 1 ∧ ys = [] ∧ (n < 0 ∨ 64 < n)) ∨ (c = 2 ∧ ys = [] ∧ ¬ (n < 0 ∨ 64 < n) ∧ ∃ p, p ∈ ps ∧ badP n p) ∨ (c = 0 ∧ Bits n.toNat (ofF ps) ys ∧ ¬ (n < 0 ∨ 64 < n) ∧ ¬ ∃ p, p ∈ ps ∧ badP n p)
theorem ofSays_same {n : Int} {ps : List (Int × Int)} {c d : Int} {xs ys : List Nat} (h1 : ofSays n ps c xs) (h2 : ofSays n ps d ys) : c = d ∧ xs = ys := by
  rcases h1 with ⟨rfl, rfl, a⟩ | ⟨rfl, rfl, a, b⟩ | ⟨rfl, hb, a, b⟩ <;> rcases h2 with ⟨rfl, rfl, c⟩ | ⟨rfl, rfl, c, d⟩ | ⟨rfl, hd, c, d⟩
  · exact ⟨rfl, rfl⟩
  · exact absurd a c
  · exact absurd a c
  · exact absurd c a
  · exact ⟨rfl, rfl⟩
  · exact absurd b d
  · exact absurd c a
  · exact absurd d b
  · exact ⟨rfl, hb.same hd⟩
def OfC : Prop := ∀ (n : Int) (v : Value) (ps : List (Int × Int)) (w : World), SlP w v ps → Calls Tryd.prog 32 #[.int .i64 n, v] w fun e w' => ∃ (u : Value) (ys : List Nat) (c : Int), e = .returned (.tuple #[u, .int .i64 c]) ∧ Sl w' u ys ∧ ofSays n ps c ys ∧ Below w.heap.size w w'
theorem refOf_sl (n : Int) (v : Value) (ps : List (Int × Int)) (w : World) (hv : SlP w v ps) : Calls Tryd.prog 33 #[.int .i64 n, v] w fun e w' => ∃ (u : Value) (ys : List Nat) (c : Int), e = .returned (.tuple #[u, .int .i64 c]) ∧ Sl w' u ys ∧ ofSays n ps c ys ∧ Below w.heap.size w w' :=
  (refOf_any n v ps w hv).mono fun _ _ ⟨hl, h⟩ => by
    rcases h with ⟨h1, rfl⟩ | ⟨h1, h2, rfl⟩ | ⟨h1, h2, g, zs, rfl, ho, hb, _⟩
    · exact ⟨_, [], 1, rfl, Sl.nil _, Or.inl ⟨rfl, rfl, h1⟩, hl⟩
    · exact ⟨_, [], 2, rfl, Sl.nil _, Or.inr (Or.inl ⟨rfl, rfl, h1, h2⟩), hl⟩
    · exact ⟨_, zs, 0, rfl, Sl.own ho hb.2.1 (by have := hb.1; omega) _, Or.inr (Or.inr ⟨rfl, hb, h1, h2⟩), hl⟩
theorem SlP.take {w : World} {a : Option Addr} {cap : Nat} {ps : List (Int × Int)} (h : SlP w (.slice a ps.length cap) ps) (m : Nat) (hm : m ≤ ps.length) : SlP w (.slice a m cap) (ps.take m) := by
  obtain ⟨l, a', cap', e, h⟩ := h
  simp only [Value.slice.injEq] at e
  obtain ⟨rfl, _, rfl⟩ := e
  have hl : (ps.take m).length = m := by rw [List.length_take]; omega
  refine ⟨by rw [hl]; omega, a, cap, by rw [hl], ?_⟩
  rcases h with h | ⟨b, off, e1, e2, e3⟩
  · left; rw [h]; simp
  · refine Or.inr ⟨b, off, e1, e2, fun i hi => ?_⟩
    rw [hl] at hi
    have : (ps.take m).getD i (0, 0) = ps.getD i (0, 0) := by simp [hi]
    rw [this]; exact e3 i (by omega)

set_option maxHeartbeats 1600000 in
theorem relOf_walk (C : OfC) (awake : Awake) (n : Int) (a : Option Addr) (cap : Nat) (ps : List (Int × Int)) (w : World) (tab : Tab w) (hs : SlP w (.slice a ps.length cap) ps) (hc : ps.length ≤ cap) :
    Calls Tryd.prog 5 #[.int .i64 n, .slice a ps.length cap] w fun e w' => e = .returned (.bool true) ∧ Below w.heap.size w w' := by
  have lp := hs.1
  obtain ⟨m, hm⟩ : ∃ m, min ps.length 200 = m := ⟨_, rfl⟩
  have ht := hs.take m (by omega)
  have fin : ∀ w0, Below w.heap.size w w0 → SlP w0 (.slice a m cap) (ps.take m) := fun w0 h => ht.below h
  have FIN : Hid (∀ w0, Below w.heap.size w w0 → SlP w0 (.slice a m cap) (ps.take m)) := fin
  generalize ps.take m = qs at FIN
  clear fin ht hs
  have hmc : (m : Int) ≤ (cap : Int) := by omega
  by_cases h : ps.length ≤ 200
  · have h' : (ps.length : Int) ≤ 200 := by omega
    have e : ps.length = m := by omega
    rw [e] at h' lp ⊢
    clear e hm hc h
    go_enter Tryd.func5, Tryd.ntmps5
    go_wp2_with fail
    refine (awake _ tab).mono ?_
    rintro e w0 ⟨rfl, l0⟩
    have s0 := FIN.out w0 l0
    go_wp2_with fail
    refine (C _ _ _ _ s0).mono ?_
    rintro e w1 ⟨u, xs, c, rfl, su, h1, l1⟩
    have s1 := s0.below l1
    go_wp2_with fail
    refine (refOf_sl _ _ _ _ s1).mono ?_
    rintro e w2 ⟨v, ys, d, rfl, sv, h2, l2⟩
    have su := su.below l2
    obtain ⟨rfl, rfl⟩ := ofSays_same h1 h2
    clear h1 h2
    go_wp2_with fail
    refine (refSame_any _ _ _ _ _ su sv).mono ?_
    rintro e w3 ⟨rfl, l3⟩
    rw [decide_eq_true rfl]
    go_wp2_with fail
    go_ret
    exact ⟨rfl, bt (bt (bt l0 l1) l2) l3⟩
  · have h' : (200 : Int) < (ps.length : Int) := by omega
    have e : m = 200 := by omega
    subst e
    clear hm h
    have hc' : (200 : Int) ≤ (cap : Int) := hmc
    go_enter Tryd.func5, Tryd.ntmps5
    go_wp2_with fail
    refine (awake _ tab).mono ?_
    rintro e w0 ⟨rfl, l0⟩
    have s0 := FIN.out w0 l0
    go_wp2_with fail
    refine (C _ _ _ _ s0).mono ?_
    rintro e w1 ⟨u, xs, c, rfl, su, h1, l1⟩
    have s1 := s0.below l1
    go_wp2_with fail
    refine (refOf_sl _ _ _ _ s1).mono ?_
    rintro e w2 ⟨v, ys, d, rfl, sv, h2, l2⟩
    have su := su.below l2
    obtain ⟨rfl, rfl⟩ := ofSays_same h1 h2
    clear h1 h2
    go_wp2_with fail
    refine (refSame_any _ _ _ _ _ su sv).mono ?_
    rintro e w3 ⟨rfl, l3⟩
    rw [decide_eq_true rfl]
    go_wp2_with fail
    go_ret
    exact ⟨rfl, bt (bt (bt l0 l1) l2) l3⟩
end Go.Proofs.YtcfegclnkheebaaDoor
