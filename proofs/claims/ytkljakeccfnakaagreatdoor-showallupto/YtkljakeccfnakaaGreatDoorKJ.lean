/-
  Rows of declarations and of domains in memory; what a declaration's reader takes.
-/
import Derived.Test.YtkljakeccfnakaaGreatDoorKB
import Derived.Test.YtkljakeccfnakaaGreatDoorHT
import Derived.Test.YtkljakeccfnakaaGreatDoorHQ
import Derived.Maps.AppendAt
import Derived.Laws.OwnMore
namespace Go.Proofs.YtkljakeccfnakaaGreatDoor
open Go.RowKit

/-- The variable of a program. -/
def Box2 (w : World) (b : Nat) (x y : Value) : Prop := w.heap[b]? = some (.cells #[x, y] 25 (0, 0))
section
variable {w w' : World} {b R n : Nat} {x y : Value}
theorem Box2.lt (h : Box2 w b x y) : b < w.heap.size := lt_of_block h
theorem Box2.cells (h : Box2 w b x y) : w.cell? ⟨b, 0, none⟩ = some x ∧ w.cell? ⟨b, 1, none⟩ = some y ∧ w.frozen? ⟨b, 0, none⟩ = false ∧ w.frozen? ⟨b, 1, none⟩ = false := by
  unfold Box2 at h
  refine ⟨?_, ?_, ?_, ?_⟩ <;> simp [World.cell?, World.frozen?, h]
theorem Box2.but (hb : But R w w') (hne : b ≠ R) (h : Box2 w b x y) : Box2 w' b x y := (hb.block b h.lt hne).trans h
theorem Box2.alloc (o : Obj) (h : Box2 w b x y) : Box2 (w.alloc o) b x y := (Below.heap_alloc _ _ _ h.lt).trans h
theorem Box2.drew (h : Box2 w b x y) : Box2 w.drew b x y := h
theorem Box2.other {p : Addr} {u : Value} (hp : b ≠ p.block) (h : Box2 w b x y) : Box2 (w.setCell p u) b x y := (Below.heap_setCell _ _ _ _ hp).trans h
theorem Box2.new (hn : b = w.heap.size) : Box2 (w.alloc (.cells #[x, y] 25 (0, 0))) b x y := by
  subst hn; exact heap_alloc_new _ _
theorem Box2.set0 {u : Value} (h : Box2 w b x y) : Box2 (w.setCell ⟨b, 0, none⟩ u) b u y := by
  unfold Box2 at *
  rw [heap_setCell_same _ b 0 _ 25 _ h]; rfl
theorem Box2.set1 {u : Value} (h : Box2 w b x y) : Box2 (w.setCell ⟨b, 1, none⟩ u) b x u := by
  unfold Box2 at *
  rw [heap_setCell_same _ b 1 _ 25 _ h]; rfl
theorem Box2.grown {row : Option Nat} (hg : w.grownBy w' row) (hr : ∀ k, row = some k → b < k) (h : Box2 w b x y) : Box2 w' b x y :=
  (hg.block b h.lt (fun e => by have := hr b e.symm; omega)).trans h
end
section
variable {w w' : World} {base e size n R : Nat} {v : Value} {xs : List Value}
theorem row_but (h : w.ownsRow base e size v n xs) (hb : But R w w') (hR : R < base) : w'.ownsRow base e size v n xs := by
  obtain ⟨h1, h2⟩ := h
  refine ⟨h1, ?_⟩
  rcases h2 with h2 | ⟨g, cap, cur, e1, e2, e3, e4⟩
  · exact Or.inl h2
  · exact Or.inr ⟨g, cap, cur, e1, e2, (hb.block g (lt_of_block e3) (by omega)).trans e3, e4⟩
theorem row_form (h : w.ownsRow base e size v n xs) : ∃ a cap, v = .slice a n cap := by
  rcases h.2 with ⟨rfl, rfl⟩ | ⟨g, cap, cur, rfl, _⟩
  · exact ⟨none, 0, rfl⟩
  · exact ⟨_, cap, rfl⟩
end
/-- Nothing ahead of the row, and nothing of R, has turned. -/
theorem But.grown {R : Nat} {a w w' : World} {row : Option Nat} (h : But R a w) (hg : w.grownBy w' row) (hr : ∀ k, row = some k → a.heap.size ≤ k) : But R a w' :=
  ⟨hg.os.trans h.os, hg.tape.trans h.tape, hg.output.trans h.output, Nat.le_trans h.size hg.size, fun i hi hne => (hg.block i (Nat.lt_of_lt_of_le hi h.size) (fun e => by have := hr i e.symm; omega)).trans (h.block i hi hne)⟩
theorem St.grown {Z R en : Nat} {w w' : World} {ts : List Tok} {row : Option Nat} (h : St Z R en w ts) (hg : w.grownBy w' row) (hr : ∀ k, row = some k → Z ≤ k) : St Z R en w' ts :=
  h.below ⟨hg.os, hg.tape, hg.output, hg.size, fun i hi => hg.block i (Nat.lt_of_lt_of_le hi h.size) (fun e => by have := hr i e.symm; omega)⟩

/-! Declarations. -/
def encD (d : Ex) : List Value := [.int .i64 (d.kind : Int), .string ⟨d.text.toArray⟩, .int .i64 d.n, .int .i64 (d.pl : Int)]
def cellsD (ds : List Ex) : List Value := ds.flatMap encD
theorem cellsD_add (ds : List Ex) (d : Ex) : cellsD (ds ++ [d]) = cellsD ds ++ encD d := by unfold cellsD; simp
theorem cellsD_at : ∀ (ds : List Ex) (j : Nat) (d : Ex) (c : Nat), ds[j]? = some d → c < 4 → (cellsD ds)[j * 4 + c]? = (encD d)[c]?
  | [], j, d, c, h, _ => by simp at h
  | a :: r, 0, d, c, h, hc => by
    simp only [List.getElem?_cons_zero, Option.some.injEq] at h
    subst h
    show (encD a ++ cellsD r)[0 * 4 + c]? = _
    rw [List.getElem?_append_left (by simp [encD]; omega)]; congr 1; omega
  | a :: r, j + 1, d, c, h, hc => by
    show (encD a ++ cellsD r)[(j + 1) * 4 + c]? = _
    rw [List.getElem?_append_right (by simp [encD]; omega)]
    rw [show (j + 1) * 4 + c - (encD a).length = j * 4 + c by simp [encD]; omega]
    exact cellsD_at r j d c (by simpa using h) hc
theorem dcsl_of {w : World} {base : Nat} {v : Value} {ds : List Ex} (h : w.ownsRow base 46 4 v ds.length (cellsD ds)) (h8 : ds.length ≤ 8) : DcSl base w v ds := by
  refine ⟨h8, ?_⟩
  have h0 := h
  rcases h.2 with ⟨rfl, hn⟩ | ⟨g, cap, cur, rfl, h1, h2, h3, h4, h5, h6⟩
  · exact ⟨none, 0, by rw [hn], by omega, Or.inl (List.length_eq_zero_iff.1 hn)⟩
  · refine ⟨_, cap, rfl, h3, Or.inr ⟨g, 0, rfl, h1, lt_of_block h2, fun j d hj => ?_⟩⟩
    have hjl : j < ds.length := by
      rcases Nat.lt_or_ge j ds.length with h | h
      · exact h
      · rw [List.getElem?_eq_none h] at hj; cases hj
    have q : ∀ c, c < 4 → w.cell? ⟨g, 0 + j * 4 + c, none⟩ = (encD d)[c]? := fun c hc => by
      rw [show 0 + j * 4 + c = j * 4 + c by omega, h0.cellAt _ (by omega)]
      exact cellsD_at ds j d c hj hc
    exact ⟨q 0 (by omega), q 1 (by omega), q 2 (by omega), q 3 (by omega)⟩

/-! Domains. -/
def comps6 (u : Value) : List Value := [comp u 0, comp u 1, comp u 2, comp u 3, comp u 4, comp u 5]
theorem comps6_at : ∀ (vs : List Value) (j : Nat) (u : Value) (c : Nat), vs[j]? = some u → c < 6 → (vs.flatMap comps6)[j * 6 + c]? = some (comp u c)
  | [], j, d, c, h, _ => by simp at h
  | a :: r, 0, d, c, h, hc => by
    simp only [List.getElem?_cons_zero, Option.some.injEq] at h
    subst h
    show (comps6 a ++ r.flatMap comps6)[0 * 6 + c]? = _
    rw [List.getElem?_append_left (by simp [comps6]; omega), show 0 * 6 + c = c by omega]
    exact six (q := fun c => (comps6 a)[c]? = some (comp a c)) rfl rfl rfl rfl rfl rfl c hc
  | a :: r, j + 1, d, c, h, hc => by
    show (comps6 a ++ r.flatMap comps6)[(j + 1) * 6 + c]? = _
    rw [List.getElem?_append_right (by simp [comps6]; omega)]
    rw [show (j + 1) * 6 + c - (comps6 a).length = j * 6 + c by simp [comps6]; omega]
    exact comps6_at r j d c (by simpa using h) hc
/-- A row of domains. -/
def ExRow (base : Nat) (w : World) (v : Value) (es : List Ex) : Prop :=
  ∃ vs : List Value, vs.length = es.length ∧ w.ownsRow base 49 6 v es.length (vs.flatMap comps6) ∧ ∀ (j : Nat) (x : Ex) (u : Value), es[j]? = some x → vs[j]? = some u → ExQ (fun b => base ≤ b ∧ some b ≠ v.ownBlock) w u x
section
variable {base : Nat} {w w' : World} {v : Value} {es : List Ex}
theorem ExRow.nil : ExRow base w (.slice none 0 0) [] := ⟨[], rfl, World.ownsRow_nil _ _ _ _, fun j x u h _ => by simp at h⟩
theorem ExRow.but {R : Nat} (h : ExRow base w v es) (hb : But R w w') (hR : R < base) : ExRow base w' v es := by
  obtain ⟨vs, h1, h2, h3⟩ := h
  exact ⟨vs, h1, row_but h2 hb hR, fun j x u hj hu => (h3 j x u hj hu).keep ⟨hb.size, fun b q hlt => hb.block b hlt (by have := q.1; omega)⟩⟩
theorem ExRow.drew (h : ExRow base w v es) : ExRow base w.drew v es := by
  obtain ⟨vs, h1, h2, h3⟩ := h
  exact ⟨vs, h1, h2, fun j x u hj hu => (h3 j x u hj hu).keep (KeptQ.refl _ _).drew⟩
theorem ExRow.set (h : ExRow base w v es) {p : Addr} (hp : p.block < base) (u : Value) : ExRow base (w.setCell p u) v es := by
  obtain ⟨vs, h1, h2, h3⟩ := h
  exact ⟨vs, h1, ownsRow_setCell_below h2 hp u, fun j x u' hj hu => (h3 j x u' hj hu).keep ((KeptQ.refl _ _).setCell (fun q => by have := q.1; omega) u)⟩
theorem ExRow.app {lo : Nat} {u v' : Value} {x : Ex} {vs : List Value} (h1 : vs.length = es.length) (h3 : ∀ (j : Nat) (x : Ex) (u : Value), es[j]? = some x → vs[j]? = some u → ExQ (fun b => base ≤ b ∧ some b ≠ v.ownBlock) w u x)
    (hx : ExV lo w u x) (hlo : base ≤ lo) (hlt : ∀ k, v.ownBlock = some k → k < lo) (hr : w'.ownsRow base 49 6 v' (es.length + 1) (vs.flatMap comps6 ++ comps6 u)) (hg : w.grownBy w' v.ownBlock) (hn : v'.ownBlock = v.ownBlock ∨ v'.ownBlock = some w.heap.size) : ExRow base w' v' (es ++ [x]) := by
  have go : ∀ (y : Ex) (z : Value), ExQ (fun b => base ≤ b ∧ some b ≠ v.ownBlock) w z y → ExQ (fun b => base ≤ b ∧ some b ≠ v'.ownBlock) w' z y := fun y z hz => by
    have a1 : ExQ (fun b => (base ≤ b ∧ some b ≠ v.ownBlock) ∧ b < w.heap.size) w z y := hz.imp (fun b hb q => ⟨q, hb⟩)
    refine (a1.keep ⟨hg.size, fun b q hb => hg.block b hb q.1.2⟩).imp (fun b _ q => ⟨q.1.1, ?_⟩)
    rcases hn with e | e
    · rw [e]; exact q.1.2
    · rw [e]; intro e2; simp only [Option.some.injEq] at e2; have := q.2; omega
  refine ⟨vs ++ [u], by simp [h1], by simpa using hr, fun j y z hj hz => ?_⟩
  rcases Nat.lt_or_ge j es.length with c | c
  · rw [List.getElem?_append_left c] at hj
    rw [List.getElem?_append_left (by omega)] at hz
    exact go y z (h3 j y z hj hz)
  · rw [List.getElem?_append_right c] at hj
    rw [List.getElem?_append_right (by omega)] at hz
    have hj0 : j - es.length = 0 := by
      rcases Nat.eq_zero_or_pos (j - es.length) with h | h
      · exact h
      · rw [List.getElem?_eq_none (by simp; omega)] at hj; cases hj
    rw [hj0] at hj
    rw [h1, hj0] at hz
    simp only [List.getElem?_cons_zero, Option.some.injEq] at hj hz
    subst hj hz
    exact go x u (hx.toQ (fun b hb _ => ⟨Nat.le_trans hlo hb, fun e => by have := hlt b e.symm; omega⟩))
theorem ExRow.ex (h : ExRow base w v es) (hne : es ≠ []) (hl : es.length ≤ 1000000) : ExV base w (exV 0 [] [] 0 0 v) (.mk 0 [] [] 0 0 es) := by
  obtain ⟨vs, h1, h2, h3⟩ := h
  have h0 := h2
  rcases h2.2 with ⟨rfl, hn⟩ | ⟨g, cap, cur, rfl, e1, e2, e3, _⟩
  · exact absurd (List.length_eq_zero_iff.1 hn) hne
  · refine ExV.node 0 [] [] 0 0 g 0 cap es (fun j => vs.getD j undef) e1 (lt_of_block e2) ⟨e3, hl⟩ (fun j hj c hc => ?_) (fun j x hx => ?_)
    · have hv : vs[j]? = some (vs.getD j undef) := by rw [List.getD_eq_getElem?_getD, List.getElem?_eq_getElem (by omega)]; rfl
      rw [show 0 + j * 6 + c = j * 6 + c by omega, h0.cellAt _ (by omega)]
      exact comps6_at vs j _ c hv hc
    · have hj : j < es.length := by
        rcases Nat.lt_or_ge j es.length with h | h
        · exact h
        · rw [List.getElem?_eq_none h] at hx; cases hx
      have hv : vs[j]? = some (vs.getD j undef) := by rw [List.getD_eq_getElem?_getD, List.getElem?_eq_getElem (by omega)]; rfl
      exact (h3 j x _ hx hv).toV (fun b q => q.1)
end

/-! What a declaration's reader takes. -/
theorem decl_then {en f : Nat} {k : Ex → Cmd} {ts : List Tok} : runC en (P en f) (declC k) ts = thenO en f k (runC en (P en f) (declC .ret) ts) := by
  cases ts with
  | nil => rfl
  | cons t r =>
    simp only [declC, nameC', kindC, firstC, mustC, mayC, runC]
    cases r with
    | nil => rfl
    | cons a r =>
      by_cases h1 : hd (isK 1) (a :: r) = true
      · simp only [h1, if_true, runC]
        by_cases h2 : t.text = [99, 101, 108, 108]
        · simp only [h2, if_true, runC]
          by_cases h3 : hd (isT [61]) r = true
          · simp only [h3, if_true]
            cases r with
            | nil => rfl
            | cons b r =>
              simp only [runC]
              by_cases h4 : hd (isT [45]) r = true
              · simp only [h4, if_true]
                cases r with
                | nil => rfl
                | cons c r =>
                  simp only [runC]
                  by_cases h5 : hd (isK 3) r = true
                  · simp only [h5, if_true]
                    cases r <;> rfl
                  · simp [h5, thenO]
              · simp only [h4]
                by_cases h5 : hd (isK 3) r = true
                · simp only [h5, if_true]
                  cases r <;> rfl
                · simp [h5, thenO]
          · simp [h3, thenO]
        · simp only [h2, if_false]
          by_cases h2' : t.text = [97, 116, 111, 109]
          · simp only [h2', if_true, runC]
            by_cases h3 : hd (isT [61]) r = true
            · simp only [h3, if_true]
              cases r with
              | nil => rfl
              | cons b r =>
                simp only [runC]
                by_cases h4 : hd (isT [45]) r = true
                · simp only [h4, if_true]
                  cases r with
                  | nil => rfl
                  | cons c r =>
                    simp only [runC]
                    by_cases h5 : hd (isK 3) r = true
                    · simp only [h5, if_true]
                      cases r <;> rfl
                    · simp [h5, thenO]
                · simp only [h4]
                  by_cases h5 : hd (isK 3) r = true
                  · simp only [h5, if_true]
                    cases r <;> rfl
                  · simp [h5, thenO]
            · simp [h3, thenO]
          · simp only [h2', if_false, runC]
            by_cases h5 : hd (isK 3) r = true
            · simp only [h5, if_true]
              cases r with
              | nil => rfl
              | cons b r =>
                simp only [runC]
                by_cases h6 : b.val < 1 ∨ 8 < b.val
                · rw [if_pos h6, if_pos h6]; rfl
                · rw [if_neg h6, if_neg h6]; rfl
            · simp [h5, thenO]
      · simp [h1, thenO]
theorem decl_eat {en f : Nat} {ts r : List Tok} {d : Ex} (h : runC en (P en f) (declC .ret) ts = .ok d r) : r.length < ts.length :=
  run_eat (P_left en f) (fun s ts x r hs h => P_eat en f s ts x r hs h) (c := declC .ret) (Eat.take _) h

/-! A step of a region, as a list of one operation. -/
def stepQ (Q : Exit → Act → World → Prop) (K : Act → World → Prop) : Exit → Act → World → Prop
  | .normal, a, w => K a w
  | e, a, w => Q e a w
theorem Oper.wp_step {P : Program} {Q : Exit → Act → World → Prop} {o : Oper} {a : Act} {w : World} {K : Act → World → Prop} (hh : o.wp P a w (stepQ Q K .normal) (stepQ Q K)) : o.wp P a w K Q := by
  unfold Oper.wp at *
  generalize (execOp a.eval o).run P w = r at *
  cases r with
  | ok m w' =>
    cases m <;> simp only [Oper.upon] at hh ⊢ <;>
      first
        | exact hh
        | exact Calls.mono hh (fun e w'' he => by cases e <;> exact he)
        | exact Rows.mono hh (fun _ _ he => he)
  | halt x w' => cases x <;> simp only [Oper.upon] at hh ⊢ <;> exact hh
theorem wpAnyH_list {P : Program} {md : Region.Mode} {ops : Array Oper} {Q : Exit → Act → World → Prop} {S : World → Prop} {i fuel : Nat} {o : Oper} {listed : Array Bool} {a : Act} {w : World} (hr : Region.ready md ops listed = [i]) (ho : ops[i]? = some o) (hg : o.guard = none)
    (h : wpList P ops (stepQ Q fun a' w' => S w' ∧ wpAnyH P md ops Q S fuel (listed.setIfInBounds i true) a' w') [o] a w) : wpAnyH P md ops Q S (fuel + 1) listed a w := by
  refine wpAnyH_all hr (by simp) (fun j hj => ?_)
  have hj' : j = i := by simpa using hj
  subst hj'
  unfold wpOp
  simp only [ho]
  unfold wpList at h
  have w1 : Region.wanted o (yielded ops a.tmps) = true := by unfold Region.wanted; rw [hg]
  rw [w1] at h ⊢
  simp only [if_true] at h ⊢
  rcases h with h | h
  · exact Or.inl (Oper.wp_step h)
  · exact Or.inr h
end Go.Proofs.YtkljakeccfnakaaGreatDoor
