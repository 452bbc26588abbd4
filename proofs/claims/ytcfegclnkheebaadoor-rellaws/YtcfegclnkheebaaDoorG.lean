/-
  A queue of numbers in memory of the call's own: one more is put behind it, the first is taken from it; the other rows of the call stay.
-/
import Derived.Test.YtcfegclnkheebaaDoorF
import Derived.Deep.Onto
import Derived.ArgAppend
namespace Go.Proofs.YtcfegclnkheebaaDoor
open Go.RowKit

/-- The value v is a slice of the numbers ns in a block of ints, its number from base on; or it has no room at all. -/
def Que (w : World) (base : Nat) (v : Value) (ns : List Nat) : Prop :=
  ∃ ao cap, v = .slice ao ns.length cap ∧ ((cap = 0 ∧ ns = []) ∨ ∃ b off cur, ao = some ⟨b, off, none⟩ ∧ base ≤ b ∧ w.heap[b]? = some (.cells cur 3 (0, 0)) ∧ ns.length ≤ cap ∧ off + cap ≤ cur.size ∧ ∀ j, j < ns.length → cur[off + j]? = some (.int .i64 ((ns.getD j 0 : Nat) : Int)))
/-- Behind it only blocks of ints from base on have been written, and new ones made. -/
def Grew (base : Nat) (w w' : World) : Prop := ∃ row, w.grownBy w' row ∧ ∀ k, row = some k → base ≤ k ∧ ∃ cur, w.heap[k]? = some (.cells cur 3 (0, 0))
theorem Grew.own {base g : Nat} {w w' : World} {zs : List Nat} (h : Grew base w w') (ho : OwnU w g zs) : OwnU w' g zs := by
  obtain ⟨row, hg, hr⟩ := h
  refine (hg.block g ho.lt ?_).trans ho
  intro e
  obtain ⟨_, cur, hc⟩ := hr g e.symm
  unfold OwnU at ho
  rw [ho] at hc
  simp at hc
theorem Grew.below {base B : Nat} {w0 w w' : World} (h : Grew base w w') (hb : Below B w0 w) (h1 : B ≤ base) (h2 : B ≤ w.heap.size) : Below B w0 w' := by
  obtain ⟨row, hg, hr⟩ := h
  exact hb.grown hg h2 (fun k e => Nat.le_trans h1 (hr k e).1)
theorem Grew.refl (base : Nat) (w : World) : Grew base w w := ⟨none, ⟨rfl, rfl, rfl, Nat.le_refl _, fun _ _ _ => rfl⟩, fun k e => by simp at e⟩
theorem Que.nil (w : World) (base : Nat) : Que w base (.slice none 0 0) [] := ⟨none, 0, rfl, Or.inl ⟨rfl, rfl⟩⟩
theorem Que.other {w w' : World} {base g : Nat} {v : Value} {ns : List Nat} {zs : List Nat} (h : Que w base v ns) (ho : OwnU w g zs) (hg : w.grownBy w' (some g)) : Que w' base v ns := by
  obtain ⟨ao, cap, rfl, h⟩ := h
  refine ⟨ao, cap, rfl, ?_⟩
  rcases h with h | ⟨b, off, cur, e1, e2, e3, e4, e5, e6⟩
  · exact Or.inl h
  · refine Or.inr ⟨b, off, cur, e1, e2, ?_, e4, e5, e6⟩
    refine (hg.block b (lt_of_block e3) ?_).trans e3
    intro e
    rw [Option.some.injEq] at e
    subst e
    unfold OwnU at ho
    rw [ho] at e3
    simp at e3
theorem Que.alloc {w : World} {base : Nat} {v : Value} {ns : List Nat} (h : Que w base v ns) (o : Obj) : Que (w.alloc o) base v ns := by
  obtain ⟨ao, cap, rfl, h⟩ := h
  refine ⟨ao, cap, rfl, ?_⟩
  rcases h with h | ⟨b, off, cur, e1, e2, e3, e4, e5, e6⟩
  · exact Or.inl h
  · exact Or.inr ⟨b, off, cur, e1, e2, (Below.heap_alloc w o b (lt_of_block e3)).trans e3, e4, e5, e6⟩
theorem Que.cell {w : World} {base : Nat} {v : Value} {ns : List Nat} (h : Que w base v ns) {j : Nat} (hj : j < ns.length) : ∃ b off cap, v = .slice (some ⟨b, off, none⟩) ns.length cap ∧ w.cell? ⟨b, off + j, none⟩ = some (.int .i64 ((ns.getD j 0 : Nat) : Int)) ∧ ns.length ≤ cap := by
  obtain ⟨ao, cap, rfl, h⟩ := h
  rcases h with ⟨_, h⟩ | ⟨b, off, cur, rfl, e2, e3, e4, e5, e6⟩
  · rw [h] at hj; simp at hj
  · refine ⟨b, off, cap, rfl, ?_, e4⟩
    have hlt : off + j < cur.size := by omega
    have := e6 j hj
    rw [Array.getElem?_eq_getElem hlt, Option.some.injEq] at this
    simp [World.cell?, e3, hlt, this]

def ivals (ns : List Nat) : List Value := ns.map fun (z : Nat) => Value.int .i64 (z : Int)
theorem ivals_len (zs : List Nat) : (ivals zs).length = zs.length := by simp [ivals]
theorem ivals_at {zs : List Nat} {j : Nat} {u : Value} (h : (ivals zs)[j]? = some u) : j < zs.length ∧ u = .int .i64 ((zs.getD j 0 : Nat) : Int) := by
  have hj : j < (ivals zs).length := by
    apply Nat.not_le.1
    intro hc
    rw [List.getElem?_eq_none hc] at h; simp at h
  rw [ivals_len] at hj
  refine ⟨hj, ?_⟩
  simp [ivals, hj] at h
  rw [← h]; simp [hj]
theorem Que.ofRow {w : World} {base : Nat} {v : Value} {ns : List Nat} {n : Nat} (h : w.ownsRow base 3 1 v n (ivals ns)) (hn : n = ns.length) : Que w base v ns := by
  subst hn
  rcases h.2 with ⟨rfl, h0⟩ | ⟨g, cap, cur, rfl, hb, hg, hnc, hcm, hcs, htake⟩
  · exact ⟨none, 0, by rw [h0], Or.inl ⟨rfl, List.eq_nil_of_length_eq_zero h0⟩⟩
  · refine ⟨_, cap, rfl, Or.inr ⟨g, 0, cur, rfl, hb, hg, hnc, by omega, fun j hj => ?_⟩⟩
    have h1 : (cur.toList.take (ns.length * 1))[j]? = (ivals ns)[j]? := by rw [htake]
    rw [List.getElem?_take_of_lt (by omega), Array.getElem?_toList] at h1
    rw [Nat.zero_add, h1]
    simp [ivals, hj]
theorem Tryd.info3 : (Tryd.prog.info? 3).map (fun i => (i.zero, i.size, i.bytes)) = some (some (.int .i64 0), 1, 8) := by kernel_rfl

theorem wpList_append_que (w : World) {ops : Array Oper} {rest : List Oper} {o : Oper} {a : Act} {Q : Exit → Act → World → Prop}
    (hgd : o.guard = none) (s x : Operand) (hop : o.op = Op.call { callee := Callee.builtin Builtin.append, args := #[s, x], argTypes := #[31, 31] })
    (base : Nat) (v : Value) (ns : List Nat) (hs : a.eval s = v) (hq : Que w base v ns) (xb c : Nat) (y : Nat) (hx : a.eval x = .slice (some ⟨xb, 0, none⟩) 1 c) (hc : w.cell? ⟨xb, 0, none⟩ = some (.int .i64 (y : Int)))
    (hlen : ns.length ≤ 1000000) (hbase : base ≤ w.heap.size)
    (hK : ∀ v' w', Que w' base v' (ns ++ [y]) → Grew base w w' → wpList Tryd.prog ops Q rest (a.put o.dst v') w') :
    wpList Tryd.prog ops Q (o :: rest) a w := by
  obtain ⟨i0, hi, hz0, hz1, hz2⟩ := info_parts Tryd.info3
  obtain ⟨ao, cap, rfl, h⟩ := hq
  have hnews : ∀ j u, [Value.int .i64 (y : Int)][j]? = some u → w.cell? ((⟨xb, 0, none⟩ : Addr).add j) = some u := by
    intro j u hj
    match j, hj with
    | 0, hj =>
      simp only [List.getElem?_cons_zero, Option.some.injEq] at hj
      subst hj
      rw [Addr.add_lit]; exact hc
  have one : ∀ u ∈ [Value.int .i64 (y : Int)], u.oneCell' = true := by
    intro u hu
    simp only [List.mem_singleton] at hu
    subst hu; rfl
  have cat : ivals (ns ++ [y]) = ivals ns ++ [Value.int .i64 (y : Int)] := by simp [ivals]
  rcases h with ⟨rfl, rfl⟩ | ⟨b, off, cur, rfl, e2, e3, e4, e5, e6⟩
  · refine wpList_append_grows w hgd s x 31 hop 3 i0 (.int .i64 0) 1 8 Tryd.underlying31 hi hz0 hz1 hz2 rfl (by decide) ao 0 0 [] hs (fun _ => ⟨rfl, rfl⟩) rfl (fun _ _ j u hj => by simp at hj) ⟨xb, 0, none⟩ 1 c [Value.int .i64 (y : Int)] hx rfl hnews one (by omega) (by unfold maxLen; omega) (by omega) ?_
    intro v' w' hown hgrow
    refine hK v' w' (Que.ofRow (n := 0 + 1) ?_ (by simp)) ⟨none, hgrow, fun k e => by simp at e⟩
    exact (show w'.ownsRow w.heap.size 3 1 v' (0 + 1) (ivals ([] ++ [y])) from hown).mono hbase
  · have holds : ∀ j u, (ivals ns)[j]? = some u → w.cell? ⟨b, off + j, none⟩ = some u := by
      intro j u hj
      obtain ⟨h1, rfl⟩ := ivals_at hj
      have hlt : off + j < cur.size := by omega
      have := e6 j h1
      rw [Array.getElem?_eq_getElem hlt, Option.some.injEq] at this
      simp [World.cell?, e3, hlt, this]
    refine wpList_append_arg w hgd s x 31 hop 3 i0 (.int .i64 0) 1 8 Tryd.underlying31 hi hz0 hz1 hz2 rfl (by decide) b off ns.length cap (ivals ns) hs (by rw [ivals_len]; omega) holds ⟨xb, 0, none⟩ 1 c [Value.int .i64 (y : Int)] hx rfl hnews one ?_ (by unfold maxLen; omega) (by omega) ?_ ?_
    · intro hr j hj
      have hj0 : j = 0 := by simpa using hj
      subst hj0
      refine ⟨?_, frozen_of_row w b _ cur 3 e3⟩
      have hlt : off + ns.length * 1 + 0 < cur.size := by omega
      simp [World.cell?, e3]
      omega
    · intro hr
      have e7 : w.setCells b (off + ns.length * 1) [Value.int .i64 (y : Int)] = w.setCell ⟨b, off + ns.length, none⟩ (.int .i64 (y : Int)) := by
        rw [Nat.mul_one]; rfl
      rw [e7]
      refine hK _ _ ⟨_, cap, by simp, Or.inr ⟨b, off, _, rfl, e2, heap_setCell_same w b _ cur 3 _ e3, by simpa using hr, by simpa using e5, ?_⟩⟩ ⟨some b, ⟨rfl, rfl, rfl, by simp, fun k _ hk => heap_setCell_other w _ k _ (fun e => hk (by simp [e]))⟩, fun k e => ?_⟩
      · intro j hj
        rw [List.length_append, List.length_singleton] at hj
        by_cases hjn : j = ns.length
        · subst hjn
          rw [Array.getElem?_setIfInBounds_self_of_lt (by omega)]
          simp
        · rw [Array.getElem?_setIfInBounds_ne (by omega), e6 j (by omega)]
          have : (ns ++ [y]).getD j 0 = ns.getD j 0 := by
            rw [List.getD_eq_getElem?_getD, List.getElem?_append_left (by omega), ← List.getD_eq_getElem?_getD]
          rw [this]
      · rw [Option.some.injEq] at e
        subst e
        exact ⟨e2, cur, e3⟩
    · intro hr v' w' hown hgrow
      refine hK v' w' (Que.ofRow (n := ns.length + 1) ?_ (by simp)) ⟨none, hgrow, fun k e => by simp at e⟩
      rw [cat]
      exact hown.mono hbase
end Go.Proofs.YtcfegclnkheebaaDoor
