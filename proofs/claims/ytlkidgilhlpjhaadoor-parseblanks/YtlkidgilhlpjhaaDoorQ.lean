/-
  What the program's own functions of layer 4 are to answer, as contracts, and the walks of statements over them.
-/
import Derived.Test.YtlkidgilhlpjhaaDoorD
import Derived.Test.YtlkidgilhlpjhaaDoorV
namespace Go.Proofs.YtlkidgilhlpjhaaDoor
open Go.RowKit

/-- An answer as it is read: the words, or a fault and its place. -/
def Ans (w : World) (v : Value) (a b : Int) : Res → Prop
  | .ok ts => a = 0 ∧ b = 0 ∧ TokSl w v ts
  | .err c p => a = c ∧ b = p ∧ TokSl w v []
def lexC (r : Res) : Int := match r with | .ok _ => 0 | .err c _ => c
def lexP (r : Res) : Int := match r with | .ok _ => 0 | .err _ p => p
def lexTs (r : Res) : List Tok := match r with | .ok ts => ts | .err _ _ => []
theorem Ans.parts {w : World} {v : Value} {a b : Int} {r : Res} (h : Ans w v a b r) : a = lexC r ∧ b = lexP r ∧ TokSl w v (lexTs r) := by
  cases r with
  | ok ts => exact h
  | err c p => exact h

structure LexC : Prop where
  tokens : ∀ (s : ByteArray) (w : World), s.size ≤ 140737488351232 → Calls Tryd.prog 7 #[.string s] w fun e w' => (∃ v a b, e = .returned (.tuple #[v, .int .i64 a, .int .i64 b]) ∧ Ans w' v a b (lexT s.data.toList)) ∧ Below w.heap.size w w'
theorem tokens_at (C : LexC) (s : ByteArray) (w : World) (hs : s.size ≤ 140737488351232) : Calls Tryd.prog 7 #[.string s] w fun e w' => (∃ v, e = .returned (.tuple #[v, .int .i64 (lexC (lexT s.data.toList)), .int .i64 (lexP (lexT s.data.toList))]) ∧ TokSl w' v (lexTs (lexT s.data.toList))) ∧ Below w.heap.size w w' :=
  (C.tokens s w hs).mono fun e w' ⟨⟨v, a, b, he, ha⟩, hb⟩ => by
    obtain ⟨rfl, rfl, h⟩ := ha.parts
    exact ⟨⟨v, he, h⟩, hb⟩
def wakeT : List Tok := [⟨1, [120], 0, 0⟩, ⟨4, [58, 61], 0, 1⟩, ⟨3, [49], 1, 3⟩]
theorem wake_lex : lexT [120, 58, 61, 49] = .ok wakeT := by rfl
theorem wake_name : isNameB [120] = true := by decide
theorem wake_tokens (C : LexC) (w : World) : Calls Tryd.prog 7 #[.string ⟨#[120, 58, 61, 49]⟩] w fun e w' => (∃ b off cap, e = .returned (.tuple #[.slice (some ⟨b, off, none⟩) 3 cap, .int .i64 0, .int .i64 0]) ∧
    w'.cell? ⟨b, off + 1 * 4 + 1, none⟩ = some (.string ⟨#[58, 61]⟩) ∧ w'.cell? ⟨b, off + 2 * 4 + 2, none⟩ = some (.int .i64 1)) ∧ Below w.heap.size w w' :=
  (tokens_at C _ w (by decide)).mono fun e w' ⟨⟨v, he, ht⟩, hb⟩ => by
    have e1 : lexT (⟨#[120, 58, 61, 49]⟩ : ByteArray).data.toList = .ok wakeT := wake_lex
    rw [e1] at he ht
    obtain ⟨_, a, cap, rfl, _, _, h⟩ := ht
    rcases h with h | ⟨b, off, rfl, _, hc⟩
    · cases h
    · refine ⟨⟨b, off, cap, he, ?_, ?_⟩, hb⟩
      · exact (hc 1 ⟨4, [58, 61], 0, 1⟩ rfl).2.1
      · exact (hc 2 ⟨3, [49], 1, 3⟩ rfl).2.2.1
theorem bt {w w1 w2 : World} (h1 : Below w.heap.size w w1) (h2 : Below w1.heap.size w1 w2) : Below w.heap.size w w2 := h1.trans (h2.mono h1.size)

end Go.Proofs.YtlkidgilhlpjhaaDoor
