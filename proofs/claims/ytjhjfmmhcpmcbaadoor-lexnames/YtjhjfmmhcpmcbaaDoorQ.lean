/-
  What the program's own functions of layer 4 are to answer, as contracts, and the walks of statements over them.
-/
import Derived.Test.YtjhjfmmhcpmcbaaDoorD
import Derived.Test.YtjhjfmmhcpmcbaaDoorV
namespace Go.Proofs.YtjhjfmmhcpmcbaaDoor
open Go.RowKit

/-- An answer as it is read: the words, or a fault and its place. -/
def Ans (w : World) (v : Value) (a b : Int) : Res → Prop
  | .ok ts => a = 0 ∧ b = 0 ∧ TokSl w v ts
  | .err c p => a = c ∧ b = p ∧ TokSl w v []
def lexC (r : Res) : Int := match r with | .ok _ => 0 | .err c _ => c
def lexP (r : Res) : Int := match r with | .ok _ => 0 | .err _ p => p
def lexTs (r : Res) : List Tok := match r with | .ok ts => ts | .err _ _ => []
theorem Ans.parts {w : World} {v : Value} {a b : Int} {r : Res} (h : Ans w v a b r) : a = lexC r ∧ b = lexP r ∧ TokSl w v (lexTs r) := by
  cases r with
  | ok ts => exact h
  | err c p => exact h

structure LexC : Prop where
  tokens : ∀ (s : ByteArray) (w : World), s.size ≤ 140737488351232 → Calls Tryd.prog 9 #[.string s] w fun e w' => (∃ v a b, e = .returned (.tuple #[v, .int .i64 a, .int .i64 b]) ∧ Ans w' v a b (lexT s.data.toList)) ∧ Below w.heap.size w w'
  isName : ∀ (s : ByteArray) (w : World), s.size ≤ 140737488351232 → Calls Tryd.prog 12 #[.string s] w fun e w' => e = .returned (.bool (isNameB s.data.toList)) ∧ Below w.heap.size w w'
structure RefC : Prop where
  tokens : ∀ (s : ByteArray) (w : World), s.size ≤ 140737488351232 → Calls Tryd.prog 10 #[.string s] w fun e w' => (∃ v a b, e = .returned (.tuple #[v, .int .i64 a, .int .i64 b]) ∧ Ans w' v a b (lexT s.data.toList)) ∧ Below w.heap.size w w'

theorem tokens_at (C : LexC) (s : ByteArray) (w : World) (hs : s.size ≤ 140737488351232) : Calls Tryd.prog 9 #[.string s] w fun e w' => (∃ v, e = .returned (.tuple #[v, .int .i64 (lexC (lexT s.data.toList)), .int .i64 (lexP (lexT s.data.toList))]) ∧ TokSl w' v (lexTs (lexT s.data.toList))) ∧ Below w.heap.size w w' :=
  (C.tokens s w hs).mono fun e w' ⟨⟨v, a, b, he, ha⟩, hb⟩ => by
    obtain ⟨rfl, rfl, h⟩ := ha.parts
    exact ⟨⟨v, he, h⟩, hb⟩
theorem refTokens_at (C : RefC) (s : ByteArray) (w : World) (hs : s.size ≤ 140737488351232) : Calls Tryd.prog 10 #[.string s] w fun e w' => (∃ v, e = .returned (.tuple #[v, .int .i64 (lexC (lexT s.data.toList)), .int .i64 (lexP (lexT s.data.toList))]) ∧ TokSl w' v (lexTs (lexT s.data.toList))) ∧ Below w.heap.size w w' :=
  (C.tokens s w hs).mono fun e w' ⟨⟨v, a, b, he, ha⟩, hb⟩ => by
    obtain ⟨rfl, rfl, h⟩ := ha.parts
    exact ⟨⟨v, he, h⟩, hb⟩

def wakeT : List Tok := [⟨1, [120], 0, 0⟩, ⟨4, [58, 61], 0, 1⟩, ⟨3, [49], 1, 3⟩]
theorem wake_lex : lexT [120, 58, 61, 49] = .ok wakeT := by rfl
theorem wake_name : isNameB [120] = true := by decide
theorem wake_tokens (C : LexC) (w : World) : Calls Tryd.prog 9 #[.string ⟨#[120, 58, 61, 49]⟩] w fun e w' => (∃ b off cap, e = .returned (.tuple #[.slice (some ⟨b, off, none⟩) 3 cap, .int .i64 0, .int .i64 0]) ∧
    w'.cell? ⟨b, off + 1 * 4 + 1, none⟩ = some (.string ⟨#[58, 61]⟩) ∧ w'.cell? ⟨b, off + 2 * 4 + 2, none⟩ = some (.int .i64 1)) ∧ Below w.heap.size w w' :=
  (tokens_at C _ w (by decide)).mono fun e w' ⟨⟨v, he, ht⟩, hb⟩ => by
    have e1 : lexT (⟨#[120, 58, 61, 49]⟩ : ByteArray).data.toList = .ok wakeT := wake_lex
    rw [e1] at he ht
    obtain ⟨_, a, cap, rfl, _, _, h⟩ := ht
    rcases h with h | ⟨b, off, rfl, _, hc⟩
    · cases h
    · refine ⟨⟨b, off, cap, he, ?_, ?_⟩, hb⟩
      · exact (hc 1 ⟨4, [58, 61], 0, 1⟩ rfl).2.1
      · exact (hc 2 ⟨3, [49], 1, 3⟩ rfl).2.2.1
theorem wake_isName (C : LexC) (w : World) : Calls Tryd.prog 12 #[.string ⟨#[120]⟩] w fun e w' => e = .returned (.bool true) ∧ Below w.heap.size w w' :=
  (C.isName _ w (by decide)).mono fun e w' ⟨he, hb⟩ => ⟨by rw [he]; exact ret_bool wake_name, hb⟩

theorem bt {w w1 w2 : World} (h1 : Below w.heap.size w w1) (h2 : Below w1.heap.size w1 w2) : Below w.heap.size w w2 := h1.trans (h2.mono h1.size)

set_option maxHeartbeats 4000000 in
theorem awake_walk (C : LexC) (w : World) : Calls Tryd.prog 8 #[] w fun e w' => e = .returned (.bool true) ∧ Below w.heap.size w w' := by
  go_enter Tryd.func8, Tryd.ntmps8
  go_wp2_with (first | (go_at_call 9; refine (wake_tokens C _).mono ?_; rintro e w1 ⟨⟨b, off, cap, rfl, c1, c2⟩, hb1⟩) | (go_at_call 12; refine (wake_isName C _).mono ?_; rintro e w2 ⟨rfl, hb2⟩))
  go_ret
  exact ⟨rfl, bt hb1 hb2⟩

set_option maxHeartbeats 4000000 in
theorem lexReads_walk (C : LexC) (R : RefC) (s : ByteArray) (w : World) (hs : s.size ≤ 140737488351232) :
    Calls Tryd.prog 3 #[.string s] w fun e w' => e = .returned (.bool true) ∧ Below w.heap.size w w' := by
  by_cases c : 10000 < s.size
  · have c' : (10000 : Int) < (s.size : Int) := by omega
    go_enter Tryd.func3, Tryd.ntmps3
    go_wp2_with (go_at_call 8; refine (awake_walk C _).mono ?_; rintro e w1 ⟨rfl, hb1⟩)
    go_ret
    exact ⟨rfl, hb1⟩
  · have c' : ¬ (10000 : Int) < (s.size : Int) := by omega
    generalize hR : lexT s.data.toList = R0 at *
    have ca := tokens_at C s
    have cb := refTokens_at R s
    rw [hR] at ca cb
    go_enter Tryd.func3, Tryd.ntmps3
    go_wp2_with (first | (go_at_call 8; refine (awake_walk C _).mono ?_; rintro e w1 ⟨rfl, hb1⟩) | (go_at_call 9; refine (ca _ hs).mono ?_; rintro e w2 ⟨⟨v, rfl, hv⟩, hb2⟩) | (go_at_call 10; refine (cb _ hs).mono ?_; rintro e w3 ⟨⟨u, rfl, hu⟩, hb3⟩) | (go_at_call 11; refine (refSame_any _ _ _ _ _ (hv.below hb3) hu).mono ?_; rintro e w4 ⟨⟨r, rfl, hr⟩, hb4⟩; obtain rfl : r = true := hr.2 rfl) | (go_at_call 12; refine (C.isName _ _ hs).mono ?_; rintro e w5 ⟨rfl, hb5⟩) | (go_at_call 13; refine (refIsName_any _ _ hs).mono ?_; rintro e w6 ⟨rfl, hw6⟩; subst w6))
    go_ret
    exact ⟨ret_bool (by simp), bt (bt (bt (bt hb1 hb2) hb3) hb4) hb5⟩
end Go.Proofs.YtjhjfmmhcpmcbaaDoor
