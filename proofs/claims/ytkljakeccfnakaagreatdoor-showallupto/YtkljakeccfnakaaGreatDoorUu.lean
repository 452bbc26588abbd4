/-
  The walk of the document's own reader of words.
  Words in memory, and the walk of the document's own comparison of two lists of them.
  Plain facts: a text is a name just if it is one word of that kind; no program is named here.
  What the program's own functions of layer 4 are to answer, as contracts, and the walks of statements over them.
  The document's own reader of words keeps its contract.
-/
import Derived.Test.YtkljakeccfnakaaGreatDoorMm
import Derived.BigRegion
import Derived.RegionTactic
import Derived.Deep.CutRange
import Derived.Deep.CutBlock
import Derived.Laws.StructEq
import Derived.WalkSmall
namespace Go.Proofs.YtkljakeccfnakaaGreatDoor
open Go.RowKit

def encT (t : Tok) : List Value := [.int .i64 t.kind, .string ⟨t.text.toArray⟩, .int .i64 t.val, .int .i64 t.pos]
def cellsT (ts : List Tok) : List Value := ts.flatMap encT
theorem cellsT_add (ts : List Tok) (t : Tok) : cellsT (ts ++ [t]) = cellsT ts ++ encT t := by unfold cellsT; simp
def Res.app (ts : List Tok) : Res → Res
  | .ok l => .ok (ts ++ l)
  | .err c p => .err c p
theorem app_nil (r : Res) : Res.app [] r = r := by cases r <;> rfl
theorem app_cons (ts : List Tok) (t : Tok) (r : Res) : Res.app ts (r.cons t) = Res.app (ts ++ [t]) r := by
  cases r with
  | ok l => show Res.ok (ts ++ t :: l) = .ok (ts ++ [t] ++ l); simp
  | err c p => rfl

theorem row_len {w : World} {base n : Nat} {v : Value} {xs : List Value} (h : w.ownsRow base 107 4 v n xs) : ∃ a cap, v = .slice a n cap := by
  rcases h.2 with ⟨rfl, rfl⟩ | ⟨g, cap, cur, rfl, _⟩
  · exact ⟨none, 0, rfl⟩
  · exact ⟨_, cap, rfl⟩
theorem row_base {w : World} {base e size n k : Nat} {v : Value} {xs : List Value} (h : w.ownsRow base e size v n xs) (hk : v.ownBlock = some k) : base ≤ k := by
  rcases h.2 with ⟨rfl, _⟩ | ⟨g, cap, cur, rfl, h2, _⟩
  · cases hk
  · simp only [Value.ownBlock, Option.some.injEq] at hk
    omega
theorem row_alloc {w : World} {base e size n : Nat} {v : Value} {xs : List Value} (h : w.ownsRow base e size v n xs) (o : Obj) : (w.alloc o).ownsRow base e size v n xs :=
  h.kept (World.grownBy_alloc w o none) (by cases v.ownBlock <;> simp)
theorem cell_new {w : World} {cs : List Value} {t g z : Nat} {u : Value} (hg : g = w.heap.size) (h : cs[z]? = some u) : (w.alloc (.cells cs.toArray t)).cell? ⟨g, 0 + z, none⟩ = some u := by
  subst hg
  have e : (w.alloc (.cells cs.toArray t)).heap[w.heap.size]? = some (.cells cs.toArray t) := heap_alloc_new w _
  simp only [World.cell?, e]
  rw [Nat.zero_add]; simpa using h
theorem Tryz.info107 : (Tryz.prog.info? 107).map (fun i => (i.zero, i.size, i.bytes)) = some (some (.agg #[.int .i64 0, .string ⟨#[]⟩, .int .i64 0, .int .i64 0]), 4, 40) := by kernel_rfl
theorem info32 : ∃ i0, Tryz.prog.info? 107 = some i0 ∧ i0.zero = some (.agg #[.int .i64 0, .string ⟨#[]⟩, .int .i64 0, .int .i64 0]) ∧ i0.size = 4 ∧ i0.bytes = 40 := by
  have h := Tryz.info107
  cases e : Tryz.prog.info? 107 with
  | none => rw [e] at h; cases h
  | some i =>
    rw [e] at h
    simp only [Option.map_some, Option.some.injEq, Prod.mk.injEq] at h
    exact ⟨i, rfl, h.1, h.2.1, h.2.2⟩
end Go.Proofs.YtkljakeccfnakaaGreatDoor

namespace Go.Proofs.YtkljakeccfnakaaGreatDoor
open Go.RowKit

/-- The value v is a slice of the words ts in the world w. -/
def TokSl (w : World) (v : Value) (ts : List Tok) : Prop :=
  ts.length ≤ 1500 ∧ ∃ a cap, v = .slice a ts.length cap ∧ ts.length ≤ cap ∧ cap ≤ maxLen ∧ (ts = [] ∨ ∃ b off, a = some ⟨b, off, none⟩ ∧ b < w.heap.size ∧ ∀ j t, ts[j]? = some t →
    w.cell? ⟨b, off + j * 4, none⟩ = some (.int .i64 t.kind) ∧ w.cell? ⟨b, off + j * 4 + 1, none⟩ = some (.string ⟨t.text.toArray⟩) ∧ w.cell? ⟨b, off + j * 4 + 2, none⟩ = some (.int .i64 t.val) ∧ w.cell? ⟨b, off + j * 4 + 3, none⟩ = some (.int .i64 t.pos))
end Go.Proofs.YtkljakeccfnakaaGreatDoor

namespace Go.Proofs.YtkljakeccfnakaaGreatDoor

end Go.Proofs.YtkljakeccfnakaaGreatDoor

namespace Go.Proofs.YtkljakeccfnakaaGreatDoor
open Go.RowKit

/-- An answer as it is read: the words, or a fault and its place. -/
def Ans (w : World) (v : Value) (a b : Int) : Res → Prop
  | .ok ts => a = 0 ∧ b = 0 ∧ TokSl w v ts
  | .err c p => a = c ∧ b = p ∧ TokSl w v []
def lexC (r : Res) : Int := match r with | .ok _ => 0 | .err c _ => c
def lexP (r : Res) : Int := match r with | .ok _ => 0 | .err _ p => p
def lexTs (r : Res) : List Tok := match r with | .ok ts => ts | .err _ _ => []
theorem Ans.parts {w : World} {v : Value} {a b : Int} {r : Res} (h : Ans w v a b r) : a = lexC r ∧ b = lexP r ∧ TokSl w v (lexTs r) := by
  cases r with
  | ok ts => exact h
  | err c p => exact h

structure LexC : Prop where
  tokens : ∀ (s : ByteArray) (w : World), s.size ≤ 140737488351232 → Calls Tryz.prog 14 #[.string s] w fun e w' => (∃ v a b, e = .returned (.tuple #[v, .int .i64 a, .int .i64 b]) ∧ Ans w' v a b (lexT s.data.toList)) ∧ Below w.heap.size w w'
theorem tokens_at (C : LexC) (s : ByteArray) (w : World) (hs : s.size ≤ 140737488351232) : Calls Tryz.prog 14 #[.string s] w fun e w' => (∃ v, e = .returned (.tuple #[v, .int .i64 (lexC (lexT s.data.toList)), .int .i64 (lexP (lexT s.data.toList))]) ∧ TokSl w' v (lexTs (lexT s.data.toList))) ∧ Below w.heap.size w w' :=
  (C.tokens s w hs).mono fun e w' ⟨⟨v, a, b, he, ha⟩, hb⟩ => by
    obtain ⟨rfl, rfl, h⟩ := ha.parts
    exact ⟨⟨v, he, h⟩, hb⟩
theorem bt {w w1 w2 : World} (h1 : Below w.heap.size w w1) (h2 : Below w1.heap.size w1 w2) : Below w.heap.size w w2 := h1.trans (h2.mono h1.size)

end Go.Proofs.YtkljakeccfnakaaGreatDoor

namespace Go.Proofs.YtkljakeccfnakaaGreatDoor
open Go.RowKit

theorem lexA_count (f : Nat) : ∀ (l : List UInt8) (p k : Nat) (ts : List Tok), l.length ≤ f → k ≤ 1500 → lexA l p k = .ok ts → k + ts.length ≤ 1500 := by
  induction f with
  | zero =>
    intro l p k ts hf hk h
    have : l = [] := List.eq_nil_of_length_eq_zero (by omega)
    subst this
    rw [lexA_nil] at h; cases h; simpa using hk
  | succ f ih =>
    intro l p k ts hf hk h
    by_cases hne : l = []
    · subst hne; rw [lexA_nil] at h; cases h; simpa using hk
    · cases hs : stepL l with
      | bad => rw [lexA_bad hne hs] at h; cases h
      | skip n =>
        have hl := step_len hs
        rw [lexA_skip hs] at h
        exact ih (l.drop n) (p + n) k ts (by rw [List.length_drop]; omega) hk h
      | tok kd v n =>
        have hl := tok_len hs
        by_cases hk' : 1500 ≤ k
        · rw [lexA_many hs p hk'] at h; cases h
        · rw [lexA_tok hs p hk'] at h
          cases hr : lexA (l.drop n) (p + n) (k + 1) with
          | err c q => rw [hr] at h; cases h
          | ok us =>
            rw [hr] at h
            simp only [Res.cons, Res.ok.injEq] at h
            subst h
            have := ih (l.drop n) (p + n) (k + 1) us (by rw [List.length_drop]; omega) (by omega) hr
            rw [List.length_cons]; omega
theorem cellsT_at : ∀ (ts : List Tok) (j k : Nat) (t : Tok), k < 4 → ts[j]? = some t → (cellsT ts)[j * 4 + k]? = (encT t)[k]? := by
  intro ts
  induction ts with
  | nil => intro j k t _ h; simp at h
  | cons x ts ih =>
    intro j k t hk h
    show (encT x ++ cellsT ts)[j * 4 + k]? = _
    have lx : (encT x).length = 4 := rfl
    cases j with
    | zero =>
      simp only [List.getElem?_cons_zero, Option.some.injEq] at h
      subst h
      rw [List.getElem?_append_left (by omega), Nat.zero_mul, Nat.zero_add]
    | succ j =>
      simp only [List.getElem?_cons_succ] at h
      rw [List.getElem?_append_right (by omega), lx, show (j + 1) * 4 + k - 4 = j * 4 + k by omega]
      exact ih j k t hk h
theorem row_tok {w : World} {base : Nat} {v : Value} {ts : List Tok} (h : w.ownsRow base 107 4 v ts.length (cellsT ts)) (hl : ts.length ≤ 1500) : TokSl w v ts := by
  refine ⟨hl, ?_⟩
  rcases h.2 with ⟨rfl, h0⟩ | ⟨g, cap, cur, rfl, _, h3, h4, h5, h6, h7⟩
  · exact ⟨none, 0, by rw [h0], by omega, Nat.zero_le _, Or.inl (List.eq_nil_of_length_eq_zero h0)⟩
  · refine ⟨_, cap, rfl, h4, h5, ?_⟩
    right
    refine ⟨g, 0, rfl, lt_of_block h3, fun j t hj => ?_⟩
    have hjl : j < ts.length := (List.getElem?_eq_some_iff.1 hj).1
    have key : ∀ k, k < 4 → ∀ u, (encT t)[k]? = some u → w.cell? ⟨g, 0 + j * 4 + k, none⟩ = some u := by
      intro k hk u hu
      have e := cellsT_at ts j k t hk hj
      rw [hu, ← h7, List.getElem?_take_of_lt (by omega), Array.getElem?_toList] at e
      simp only [World.cell?, h3]
      rw [Nat.zero_add]; simpa using e
    exact ⟨key 0 (by omega) _ rfl, key 1 (by omega) _ rfl, key 2 (by omega) _ rfl, key 3 (by omega) _ rfl⟩
theorem nil_tok (w : World) : TokSl w (.slice none 0 0) [] := ⟨by simp, none, 0, rfl, by simp, Nat.zero_le _, Or.inl rfl⟩
end Go.Proofs.YtkljakeccfnakaaGreatDoor
