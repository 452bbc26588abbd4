/-
  Floats out of words, and the walk of the statement on the least and the middle one.
-/
import Derived.Test.YtmagldelgnkkfaaD
import Derived.Test.YtmagldelgnkkfaaQ
import Derived.Test.YtmagldelgnkkfaaR
namespace Go.Proofs.Ytmagldelgnkkfaa
open Go.RowKit

/-- The value v is a slice of the words ns in the world w. -/
def SlU (w : World) (v : Value) (ns : List Nat) : Prop :=
  Fits ns ∧ ns.length * 8 ≤ 140737488351232 ∧ ∃ a cap, v = .slice a ns.length cap ∧ (ns = [] ∨ ∃ b off, a = some ⟨b, off, none⟩ ∧ b < w.heap.size ∧ ∀ i, i < ns.length → w.cell? ⟨b, off + i, none⟩ = some (.int .u64 ((ns.getD i 0 : Nat) : Int)))
theorem SlU.below {w w' : World} {v : Value} {ns : List Nat} (h : SlU w v ns) (hb : Below w.heap.size w w') : SlU w' v ns := by
  obtain ⟨f, l, a, cap, e, h⟩ := h
  refine ⟨f, l, a, cap, e, ?_⟩
  rcases h with h | ⟨b, off, e1, e2, e3⟩
  · exact Or.inl h
  · exact Or.inr ⟨b, off, e1, Nat.lt_of_lt_of_le e2 hb.size, fun i hi => (hb.cell (p := ⟨b, off + i, none⟩) e2).trans (e3 i hi)⟩

theorem row_base {w : World} {base e size n k : Nat} {v : Value} {xs : List Value} (h : w.ownsRow base e size v n xs) (hk : v.ownBlock = some k) : base ≤ k := by
  rcases h.2 with ⟨rfl, _⟩ | ⟨g, cap, cur, rfl, h2, _⟩
  · cases hk
  · simp only [Value.ownBlock, Option.some.injEq] at hk
    omega
theorem row_alloc {w : World} {base e size n : Nat} {v : Value} {xs : List Value} (h : w.ownsRow base e size v n xs) (o : Obj) : (w.alloc o).ownsRow base e size v n xs :=
  h.kept (World.grownBy_alloc w o none) (by cases v.ownBlock <;> simp)
theorem fvals_next {ns : List Nat} {i : Nat} (h : i < ns.length) : fvals (ns.take (i + 1)) = fvals (ns.take i) ++ [.float .f64 (ns.getD i 0)] := by
  rw [show ns.take (i + 1) = ns.take i ++ [ns.getD i 0] from take_next h]
  unfold fvals
  rw [List.map_append]; rfl

set_option maxHeartbeats 4000000 in
theorem floats_any (v : Value) (ns : List Nat) (w : World) (h : SlU w v ns) :
    Calls Try.prog 15 #[v] w fun e w' => ∃ v', e = .returned v' ∧ w'.ownsRow w.heap.size 24 1 v' (min ns.length 100) (fvals (ns.take (min ns.length 100))) ∧ Below w.heap.size w w' := by
  obtain ⟨f, l, a, cap, rfl, h⟩ := h
  obtain ⟨i0, hi, hz0, hz1, hz2⟩ := info24
  obtain ⟨n, hn⟩ : ∃ n, ns.length = n := ⟨_, rfl⟩
  have HN : Hid (ns.length = n) := hn
  have H : Hid (n = 0 ∨ ∃ b off, a = some ⟨b, off, none⟩ ∧ b < w.heap.size ∧ ∀ i, i < n → w.cell? ⟨b, off + i, none⟩ = some (.int .u64 ((ns.getD i 0 : Nat) : Int))) := by
    rw [← hn]; exact h.imp (fun e => by rw [e]; rfl) id
  rw [hn] at l ⊢
  clear h f hn
  go_enter Try.func15, Try.ntmps15
  go_wp2
  go_loopw [3, 4] (fun t s wr => ∃ (i : Nat), i ≤ min n 100 ∧ s = .int .i64 i ∧ Hid (wr.ownsRow w.heap.size 24 1 t i (fvals (ns.take i))) ∧ Below w.heap.size w wr) (fun _ s _ => 100 - (intOf s).toNat)
  case atStart => exact ⟨0, Nat.zero_le _, rfl, by rw [List.take_zero]; exact World.ownsRow_nil _ _ _ _, Below.refl _ _⟩
  case round =>
    obtain ⟨i, hi', rfl, hr, hb⟩ := hrel
    by_cases c1 : i < n
    · have c1' : (i : Int) < (n : Int) := by omega
      by_cases c2 : i < 100
      · have c2' : (i : Int) < 100 := by omega
        rcases H with H | ⟨bk, off, rfl, hbk, hc0⟩
        · omega
        have ci : wr.cell? ⟨bk, off + i, none⟩ = some (.int .u64 ((ns.getD i 0 : Nat) : Int)) := (hb.cell (p := ⟨bk, off + i, none⟩) hbk).trans (hc0 i c1)
        have nx : Hid (fvals (ns.take (i + 1)) = fvals (ns.take i) ++ [.float .f64 (ns.getD i 0)]) := fvals_next (by have := HN.out; omega)
        clear hc0
        generalize ns.getD i 0 = z at *
        have fb : ∀ w : World, (callFunc 9 #[.int .u64 (z : Int)]).run Try.prog w = .ok (.value (.float .f64 z)) w := frombits_run z
        go_wp2_with (at_builtin; refine wpList_append_own _ rfl _ _ 34 rfl w.heap.size 24 i0 (.float .f64 0) 1 8 Try.underlying34 hi hz0 hz1 hz2 rfl (by omega) _ i (fvals (ns.take i)) rfl (row_alloc hr.out _) ⟨wr.heap.size, 0, none⟩ 1 1 [.float .f64 z] rfl ?qc1 ?qc2 ?qc3 ?qc4 ?qc5 ?qc6 ?_)
        case qc1 => rfl
        case qc2 =>
          intro j u hj
          cases j with
          | zero => simp at hj; subst hj; rw [Addr.add_lit]; simp
          | succ j => simp at hj
        case qc3 => intro u hu; simp at hu; subst hu; rfl
        case qc4 => unfold maxLen; omega
        case qc5 => omega
        case qc6 => have := hb.size; simp; omega
        intro v1 w1 hown hgrow hnil
        go_wp2_with fail
        go_roundw
        case rel =>
          exact ⟨i + 1, by omega, by go_num, by rw [nx.out]; exact hown, (hb.alloc hb.size _).grown hgrow (by have := hb.size; simp; omega) (fun k hk => row_base hr.out hk)⟩
        case measure => simp [intOf]; omega
      · have c2' : ¬ ((i : Int) < 100) := by omega
        go_wp2_with fail
        go_ret
        have e : min n 100 = i := by omega
        rw [e]
        exact ⟨_, rfl, hr.out, hb⟩
    · have c1' : ¬ ((i : Int) < (n : Int)) := by omega
      go_wp2_with fail
      go_ret
      have e : min n 100 = i := by omega
      rw [e]
      exact ⟨_, rfl, hr.out, hb⟩
end Go.Proofs.Ytmagldelgnkkfaa
