/-
  What is read is formed; no program is named here.
-/
import Derived.Test.YtkljakeccfnakaaGreatDoorVD
namespace Go.Proofs.YtkljakeccfnakaaGreatDoor

def okX (x : Ex) : Prop := wfX (toX x) = true
theorem okX_mk {k : Nat} {t o : List UInt8} {n : Int} {p : Nat} {l : List Ex} (h : nodeB k t o n (toXL l) = true) (hl : ∀ x ∈ l, okX x) : okX (.mk k t o n p l) := by
  unfold okX
  simp only [toX, wfX, h, Bool.true_and]
  rw [wfXL_all, toXL_map, List.all_map, List.all_eq_true]
  exact fun x hx => hl x hx
theorem okX_kids {x : Ex} (h : okX x) : ∀ y ∈ x.kids, okX y := by
  obtain ⟨k, t, o, n, p, l⟩ := x
  unfold okX at h
  simp only [toX, wfX, Bool.and_eq_true] at h
  rw [wfXL_all, toXL_map, List.all_map, List.all_eq_true] at h
  exact fun y hy => h.2 y hy
theorem okX_put {u : Ex} (h : okX u) (hk : u.kind = 12) : isNameB u.text = true ∧ okX u.kid0 := by
  have hc := okX_kids h
  obtain ⟨k, t, o, n, p, l⟩ := u
  simp only [Ex.kind] at hk
  subst hk
  unfold okX at h
  simp only [toX, wfX, nodeB, Bool.and_eq_true, beq_iff_eq] at h
  obtain ⟨⟨⟨⟨⟨h1, h2⟩, h3⟩, h4⟩, _⟩, _⟩ := h
  refine ⟨by show isNameB t = true; simpa [textB, usesB] using h2, ?_⟩
  cases l with
  | nil => simp [toXL, kidsN] at h1
  | cons a r => exact hc a (by simp [Ex.kids])
theorem good_name {t : Tok} (h : Good t) (hk : t.kind = 1) : isNameB t.text = true := by
  obtain ⟨l, n, hs, e⟩ := h
  obtain ⟨c, r, el, _, _, hc⟩ := tok_cases hs
  rw [hk] at hc
  rcases hc with ⟨a, b, d, _, g⟩ | ⟨_, _, _, _, _, _, _, h⟩ | ⟨_, _, _, _, _, h⟩ | ⟨_, _, _, _, _, _, h⟩
  · have et : t.text = l.takeWhile nameC := by rw [e, b, ← takeWhile_take]
    have hk2 : keyB (l.takeWhile nameC) = false := by
      cases q : keyB (l.takeWhile nameC)
      · rfl
      · rw [q] at g; simp at g
    unfold isNameB
    rw [et, hk2, List.all_takeWhile]
    have hl : (l.takeWhile nameC).length ≤ 16 := by omega
    rw [decide_eq_true hl]
    have h1 : firstB (l.takeWhile nameC) = true := by
      rw [el, List.takeWhile_cons_of_pos (by unfold nameC; rw [a]; rfl)]
      simpa [firstB] using a
    rw [h1]; rfl
  · omega
  · omega
  · omega
theorem numV_lt : ∀ (n : Nat) (l : List UInt8), l.length = n → l.all digit = true → numV l < 10 ^ n := by
  intro n
  induction n with
  | zero =>
    intro l hl _
    obtain rfl := List.eq_nil_of_length_eq_zero hl
    decide
  | succ n ih =>
    intro l hl hd
    have hne : l ≠ [] := fun e => by rw [e] at hl; simp at hl
    have e := List.dropLast_concat_getLast hne
    rw [← e, List.all_append, Bool.and_eq_true] at hd
    rw [← e, numV_add]
    have h1 := ih l.dropLast (by simp [hl]) hd.1
    have h2 : digit (l.getLast hne) = true := by simpa using hd.2
    have := digit_bounds h2
    rw [Nat.pow_succ]
    omega
theorem good_num {t : Tok} (h : Good t) (hk : t.kind = 3) : t.val ≤ 999999999 := by
  obtain ⟨l, n, hs, e⟩ := h
  obtain ⟨c, r, el, _, _, hc⟩ := tok_cases hs
  rw [hk] at hc
  rcases hc with ⟨_, _, _, _, g⟩ | ⟨_, _, b, d, _, _, f, _⟩ | ⟨_, _, _, _, _, h⟩ | ⟨_, _, _, _, _, _, h⟩
  · split at g <;> omega
  · have h1 := numV_lt _ (l.takeWhile digit) rfl List.all_takeWhile
    have h2 : (10 : Nat) ^ (l.takeWhile digit).length ≤ 10 ^ 9 := Nat.pow_le_pow_right (by omega) (by omega)
    omega
  · omega
  · omega

/-- Which readers are asked with formed expressions. -/
def okS : Sym → Prop
  | .appL _ a => okX a
  | .prodL _ a => okX a
  | .sumL _ a => okX a
  | .unit => True
  | .expr => True
  | .seq => True
  | _ => False
/-- Whatever is told is formed; q is known of the next word. -/
inductive Fm : (Tok → Prop) → Cmd → Prop
  | ret {q : Tok → Prop} {x : Ex} : okX x → Fm q (.ret x)
  | stop {q : Tok → Prop} : Fm q .stop
  | lim {q : Tok → Prop} (p : Nat) : Fm q (.lim p)
  | see {q : Tok → Prop} {p : Tok → Bool} {a b : Cmd} : Fm (fun t => q t ∧ p t = true) a → Fm q b → Fm q (.see p a b)
  | see2 {q : Tok → Prop} {p : Tok → Bool} {a b : Cmd} : Fm q a → Fm q b → Fm q (.see2 p a b)
  | here {q : Tok → Prop} {k : Nat → Cmd} : (∀ p, Fm q (k p)) → Fm q (.here k)
  | take {q : Tok → Prop} {k : Tok → Cmd} : (∀ t, Good t → q t → Fm (fun _ => True) (k t)) → Fm q (.take k)
  | call {q : Tok → Prop} {s : Sym} {k : Ex → Cmd} : okS s → (∀ x, okX x → Fm (fun _ => True) (k x)) → Fm q (.call s k)
theorem run_fm {en : Nat} {R : Sym → List Tok → Out} (hR : ∀ s ts x r, okS s → (∀ t ∈ ts, Good t) → R s ts = .ok x r → okX x) (hS : ∀ s ts x r, R s ts = .ok x r → ∃ l, ts = l ++ r) {q : Tok → Prop} {c : Cmd} (hc : Fm q c) :
    ∀ {ts r : List Tok} {x : Ex}, (∀ t ∈ ts, Good t) → (∀ t l, ts = t :: l → q t) → runC en R c ts = .ok x r → okX x := by
  induction hc with
  | ret h => intro ts r x _ _ e; simp only [runC, Out.ok.injEq] at e; rw [← e.1]; exact h
  | stop => intro ts r x _ _ e; cases e
  | lim p => intro ts r x _ _ e; cases e
  | see _ _ ha hb =>
    intro ts r x hg hq e
    simp only [runC] at e
    split at e
    · rename_i hp
      exact ha hg (fun t l el => ⟨hq t l el, by rw [el] at hp; exact hp⟩) e
    · exact hb hg hq e
  | see2 _ _ ha hb =>
    intro ts r x hg hq e
    simp only [runC] at e
    split at e
    · exact ha hg hq e
    · exact hb hg hq e
  | here _ ih => intro ts r x hg hq e; exact ih _ hg hq e
  | take _ ih =>
    intro ts r x hg hq e
    cases ts with
    | nil => cases e
    | cons t l => exact ih t (hg t (by simp)) (hq t l rfl) (fun u hu => hg u (by simp [hu])) (fun _ _ _ => trivial) e
  | @call q s k hs _ ih =>
    intro ts r x hg hq e
    simp only [runC] at e
    cases e2 : R s ts with
    | ok y l =>
      rw [e2] at e
      obtain ⟨m, rfl⟩ := hS s ts y l e2
      exact ih y (hR s _ y l hs hg e2) (fun u hu => hg u (by simp [hu])) (fun _ _ _ => trivial) e
    | no l => rw [e2] at e; cases e
    | lim p => rw [e2] at e; cases e
    | out => rw [e2] at e; cases e
abbrev Tt : Tok → Prop := fun _ => True
theorem Fm.weak {q q' : Tok → Prop} {c : Cmd} (h : Fm q c) : (∀ t, q' t → q t) → Fm q' c := by
  induction h generalizing q' with
  | ret h => intro _; exact .ret h
  | stop => intro _; exact .stop
  | lim p => intro _; exact .lim p
  | see _ _ ha hb => intro w; exact .see (ha fun t h => ⟨w t h.1, h.2⟩) (hb w)
  | see2 _ _ ha hb => intro w; exact .see2 (ha w) (hb w)
  | here _ ih => intro w; exact .here fun p => ih p w
  | take h _ => intro w; exact .take fun t g h2 => h t g (w t h2)
  | call hs h _ => intro w; exact .call hs h
theorem fm_any {q : Tok → Prop} {c : Cmd} (h : Fm Tt c) : Fm q c := h.weak fun _ _ => trivial
theorem fm_must {q : Tok → Prop} {s : List UInt8} {k : Tok → Cmd} (h : ∀ t, Fm Tt (k t)) : Fm q (mustC s k) := .see (.take fun t _ _ => h t) .stop
theorem fm_name {q : Tok → Prop} {k : List UInt8 → Cmd} (h : ∀ n, isNameB n = true → Fm Tt (k n)) : Fm q (nameC' k) := .see (.take fun t g h2 => h t.text (good_name g (by simpa [isK] using h2.2))) .stop
theorem fm_may {q : Tok → Prop} {s : List UInt8} {a b : Cmd} (ha : Fm Tt a) (hb : Fm q b) : Fm q (mayC s a b) := .see (.take fun _ _ _ => ha) hb
theorem fm_unitK {q : Tok → Prop} {k : Nat → Ex → Cmd} (h : ∀ p u, okX u → Fm Tt (k p u)) : Fm q (unitK k) := .here fun p => .call trivial fun u hu => h p u hu
theorem fm_prodK {q : Tok → Prop} {p : Nat} {x : Ex} {k : Ex → Cmd} (hx : okX x) (h : ∀ u, okX u → Fm Tt (k u)) : Fm q (prodK p x k) := .call hx fun _a ha => .call ha fun u hu => h u hu
theorem fm_sumK {q : Tok → Prop} {p : Nat} {x : Ex} {k : Ex → Cmd} (hx : okX x) (h : ∀ u, okX u → Fm Tt (k u)) : Fm q (sumK p x k) := fm_prodK hx fun _a ha => .call ha fun u hu => h u hu
theorem fm_e {q : Tok → Prop} {k : Ex → Cmd} (h : ∀ u, okX u → Fm Tt (k u)) : Fm q (.call .expr k) := .call trivial h
theorem fm_s {q : Tok → Prop} {k : Ex → Cmd} (h : ∀ u, okX u → Fm Tt (k u)) : Fm q (.call .seq k) := .call trivial h
theorem fm_u {q : Tok → Prop} {k : Ex → Cmd} (h : ∀ u, okX u → Fm Tt (k u)) : Fm q (.call .unit k) := .call trivial h

theorem ok_unit (p : Nat) : okX (unitE p) := by unfold okX; rfl
theorem ok_join8 {p : Nat} {a b : Ex} (ha : okX a) (hb : okX b) : okX (joinE 8 [] p a b) := (okX_mk (by simp [nodeB, kidsN, textB, usesB, otherB, numB, armsB, toXL, kindAt, *]) (by simp [*]))
theorem ok_join21 {p : Nat} {t : List UInt8} {a b : Ex} (ht : opB t = true) (ha : okX a) (hb : okX b) : okX (joinE 21 t p a b) := okX_mk (by simp only [nodeB, textB, usesB, toXL]; simp [kidsN, otherB, numB, armsB, ht]) (by simp [ha, hb])
theorem ok_join22 {p : Nat} {a b : Ex} (ha : okX a) (hb : okX b) : okX (joinE 22 [] p a b) := (okX_mk (by simp [nodeB, kidsN, textB, usesB, otherB, numB, armsB, toXL, kindAt, *]) (by simp [*]))
theorem ok_join23 {p : Nat} {a b : Ex} (ha : okX a) (hb : okX b) : okX (joinE 23 [] p a b) := (okX_mk (by simp [nodeB, kidsN, textB, usesB, otherB, numB, armsB, toXL, kindAt, *]) (by simp [*]))
theorem ok_num {p v : Nat} (h : v ≤ 999999999) : okX (.mk 1 [] [] v p []) := okX_mk (by simp [nodeB, kidsN, textB, usesB, otherB, numB, armsB, toXL]; omega) (by simp)
theorem fm_test {p : Nat} {x : Ex} (hx : okX x) : Fm Tt (testC p x) :=
  fm_sumK hx fun _l hl => fm_may (fm_unitK fun _q _u hu => fm_sumK hu fun _r hr => .ret (ok_join22 hl hr)) (fm_may (fm_unitK fun _q _u hu => fm_sumK hu fun _r hr => .ret (ok_join23 hl hr)) (.ret hl))
theorem fm_seq : Fm Tt seqC := .here fun p => fm_e fun e he => fm_may (fm_s fun g hg => .ret (okX_mk (by simp [nodeB, kidsN, textB, usesB, otherB, numB, armsB, toXL, kindAt, *]) (by simp [*]))) (.ret he)
theorem fm_let : Fm Tt letC := fm_must fun t => fm_name fun n hn => fm_must fun _ => fm_e fun a ha => fm_must fun _ => fm_s fun b hb => .ret (okX_mk (by simp [nodeB, kidsN, textB, usesB, otherB, numB, armsB, toXL, kindAt, *]) (by simp [*]))
theorem fm_choice : Fm Tt choiceC := fm_must fun t => fm_e fun a ha => fm_must fun _ => fm_e fun b hb => fm_must fun _ => fm_e fun c hc => .ret (okX_mk (by simp [nodeB, kidsN, textB, usesB, otherB, numB, armsB, toXL, kindAt, *]) (by simp [*]))
theorem fm_fun : Fm Tt funC := fm_must fun t => fm_name fun n hn => fm_must fun _ => fm_e fun a ha => .ret (okX_mk (by simp [nodeB, kidsN, textB, usesB, otherB, numB, armsB, toXL, kindAt, *]) (by simp [*]))
theorem fm_store : Fm (fun t => isK 1 t = true) storeT := .here fun p => .take fun t g h => by
  have hn := good_name g (by simpa [isK] using h)
  exact fm_must fun _ => fm_e fun a ha => .ret (okX_mk (by simp [nodeB, kidsN, textB, usesB, otherB, numB, armsB, toXL, kindAt, *]) (by simp [*]))
theorem fm_pairs {p : Nat} {x : Ex} (hx : okX x) : Fm Tt (pairsC p x) := fm_name fun a ha => fm_must fun _ => fm_name fun b hb => fm_must fun _ => fm_must fun _ => fm_e fun e he => .ret (okX_mk (by simp [nodeB, kidsN, textB, usesB, otherB, numB, armsB, toXL, kindAt, *]) (by simp [*]))
theorem fm_none {k : Ex → Cmd} (h : ∀ a, okX a → Fm Tt (k a)) : Fm Tt (noneArm k) := fm_must fun _ => fm_e h
theorem fm_some {k : List UInt8 → Ex → Cmd} (h : ∀ n a, isNameB n = true → okX a → Fm Tt (k n a)) : Fm Tt (someArm k) := fm_name fun n hn => fm_must fun _ => fm_e fun a ha => h n a hn ha
theorem ok_both {p : Nat} {n : List UInt8} {x a b : Ex} (hn : isNameB n = true) (hx : okX x) (ha : okX a) (hb : okX b) : okX (.mk 24 n [] 3 p [x, a, b]) := (okX_mk (by simp [nodeB, kidsN, textB, usesB, otherB, numB, armsB, toXL, kindAt, *]) (by simp [*]))
theorem ok_one {p : Nat} {x a : Ex} (hx : okX x) (ha : okX a) : okX (.mk 24 [] [] 1 p [x, a, unitE p]) := by
  have hu := ok_unit p
  exact okX_mk (by simp [nodeB, kidsN, textB, usesB, otherB, numB, armsB, toXL, kindAt, unitE, toX, Px.kind]) (by simp [*])
theorem ok_two {p : Nat} {n : List UInt8} {x b : Ex} (hn : isNameB n = true) (hx : okX x) (hb : okX b) : okX (.mk 24 n [] 2 p [x, unitE p, b]) := by
  have hu := ok_unit p
  exact okX_mk (by simp [nodeB, kidsN, textB, usesB, otherB, numB, armsB, toXL, kindAt, unitE, toX, Px.kind, hn]) (by simp [*])
theorem fm_options {p : Nat} {x : Ex} (hx : okX x) : Fm Tt (optionsC p x) :=
  fm_may (fm_none fun _a ha => fm_may (fm_may (fm_some fun _n _b hn hb => .ret (ok_both hn hx ha hb)) .stop) (.ret (ok_one hx ha)))
    (fm_may (fm_some fun _n _b hn hb => fm_may (fm_may (fm_none fun _a ha => .ret (ok_both hn hx ha hb)) .stop) (.ret (ok_two hn hx hb))) .stop)
theorem fm_match : Fm Tt matchC := fm_must fun _t => fm_e fun _x hx => fm_must fun _ => fm_may (fm_pairs hx) (fm_options hx)
theorem ok_put {p : Nat} {u g : Ex} (hu : okX u) (hk : u.kind = 12) (hg : okX g) : okX (.mk 13 u.text [] 0 p [u.kid0, g]) := by
  obtain ⟨hn, ha⟩ := okX_put hu hk
  exact (okX_mk (by simp [nodeB, kidsN, textB, usesB, otherB, numB, armsB, toXL, kindAt, *]) (by simp [*]))
theorem fm_put {q : Nat} {u : Ex} (hu : okX u) : Fm Tt (if u.kind = 12 then mayC [60, 45] (.call .expr fun g => .ret (.mk 13 u.text [] 0 q [u.kid0, g])) (testC q u) else testC q u) := by
  split
  · rename_i hk
    exact fm_may (fm_e fun g hg => .ret (ok_put hu hk hg)) (fm_test hu)
  · exact fm_test hu
theorem fm_expr : Fm Tt exprC :=
  .see (fm_any fm_let) (.see (fm_any fm_choice) (.see (fm_any fm_fun) (.see (fm_any fm_match) (.see (.see2 (fm_store.weak fun _ h => h.2) (fm_unitK fun _q _u hu => fm_put hu)) (fm_unitK fun _q _u hu => fm_test hu)))))
theorem fm_inside (p : Nat) : Fm Tt (insideC p) := fm_may (.ret (ok_unit p)) (fm_s fun a ha => fm_may (fm_s fun b hb => fm_must fun _ => .ret (okX_mk (by simp [nodeB, kidsN, textB, usesB, otherB, numB, armsB, toXL, kindAt, *]) (by simp [*]))) (fm_must fun _ => .ret ha))
theorem fm_named {t : Tok} (ht : isNameB t.text = true) : Fm Tt (namedC t) := fm_may (fm_e fun a ha => fm_must fun _ => .ret (okX_mk (by simp [nodeB, kidsN, textB, usesB, otherB, numB, armsB, toXL, kindAt, *]) (by simp [*]))) (.ret (okX_mk (by simp [nodeB, kidsN, textB, usesB, otherB, numB, armsB, toXL, kindAt, *]) (by simp [*])))
theorem fm_unit {t : Tok} (g : Good t) (hb : begins t = true) : Fm Tt (unitT t) := by
  unfold unitT
  split
  · exact fm_name fun n hn => .ret (okX_mk (by simp [nodeB, kidsN, textB, usesB, otherB, numB, armsB, toXL, kindAt, *]) (by simp [*]))
  split
  · exact fm_u fun a ha => .ret (okX_mk (by simp [nodeB, kidsN, textB, usesB, otherB, numB, armsB, toXL, kindAt, *]) (by simp [*]))
  split
  · exact fm_u fun a ha => .ret (okX_mk (by simp [nodeB, kidsN, textB, usesB, otherB, numB, armsB, toXL, kindAt, *]) (by simp [*]))
  split
  · exact fm_name fun n hn => fm_u fun a ha => .ret (okX_mk (by simp [nodeB, kidsN, textB, usesB, otherB, numB, armsB, toXL, kindAt, *]) (by simp [*]))
  split
  · exact fm_name fun n hn => fm_u fun a ha => .ret (okX_mk (by simp [nodeB, kidsN, textB, usesB, otherB, numB, armsB, toXL, kindAt, *]) (by simp [*]))
  split
  · exact fm_name fun n hn => fm_u fun a ha => fm_u fun b hb => .ret (okX_mk (by simp [nodeB, kidsN, textB, usesB, otherB, numB, armsB, toXL, kindAt, *]) (by simp [*]))
  split
  · exact .ret (by unfold okX; rfl)
  split
  · exact .ret (by unfold okX; rfl)
  split
  · exact .ret (by unfold okX; rfl)
  split
  · exact fm_inside _
  split
  · rename_i hk; exact .ret (ok_num (good_num g hk))
  · rename_i h1 h2 h3 h4 h5 h6 h7 h8 h9 h10 h11
    refine fm_named (good_name g ?_)
    unfold begins at hb
    have hf : firstL.contains t.text = false := by
      rw [← Bool.not_eq_true, List.contains_iff_mem]
      unfold firstL
      simp only [List.mem_cons, List.not_mem_nil, or_false]
      rintro (h | h | h | h | h | h | h | h | h | h)
      · exact h1 h
      · exact h2 h
      · exact h4 h
      · exact h5 h
      · exact h6 h
      · exact h3 h
      · exact h7 h
      · exact h8 h
      · exact h9 h
      · exact h10 h
    rw [hf] at hb
    simp only [Bool.false_or, Bool.or_eq_true, beq_iff_eq] at hb
    exact hb.resolve_right h11
theorem op_of {t : Tok} {s u : List UInt8} (hs : opB s = true) (hu : opB u = true) (h : (isT s t || isT u t) = true) : opB t.text = true := by
  unfold isT at h
  simp only [Bool.or_eq_true, beq_iff_eq] at h
  rcases h with h | h <;> rw [h] <;> assumption
theorem fm_body : ∀ s, okS s → Fm Tt (body s)
  | .seq, _ => fm_seq
  | .expr, _ => fm_expr
  | .unit, _ => .see (.take fun t g h => fm_unit g h.2) .stop
  | .appL p a, ha => .see (fm_u fun u hu => .call (ok_join8 ha hu) fun x hx => .ret hx) (.ret ha)
  | .prodL p a, ha => .see (.take fun t g h => fm_unitK fun q u hu => .call hu fun b hb => .call (ok_join21 (op_of (by decide) (by decide) h.2) ha hb) fun x hx => .ret hx) (.ret ha)
  | .sumL p a, ha => .see (.take fun t g h => fm_unitK fun q u hu => fm_prodK hu fun b hb => .call (ok_join21 (op_of (by decide) (by decide) h.2) ha hb) fun x hx => .ret hx) (.ret ha)
  | .decls _ _, h => h.elim
  | .doms _ _, h => h.elim
theorem P_ok (en : Nat) : ∀ (f : Nat) (s : Sym) (ts : List Tok) (x : Ex) (r : List Tok), okS s → (∀ t ∈ ts, Good t) → P en f s ts = .ok x r → okX x
  | 0, _, _, _, _, _, _, h => by cases h
  | f + 1, s, ts, _, _, hs, hg, h => run_fm (fun s ts x r => P_ok en f s ts x r) (fun s ts x r => P_suffix en f s ts x r) (fm_body s hs) hg (fun _ _ _ => trivial) h

/-! Programs. -/
def dlE (d : Ex) : Dl := ⟨d.kind, d.text, d.n, d.pl⟩
theorem good_tail {t : Tok} {l : List Tok} (h : ∀ u ∈ t :: l, Good u) : ∀ u ∈ l, Good u := fun u hu => h u (List.mem_cons_of_mem t hu)
theorem good_part {l m : List Tok} (h : ∀ u ∈ l ++ m, Good u) : ∀ u ∈ m, Good u := fun u hu => h u (List.mem_append_right l hu)
theorem doms_ok (en : Nat) : ∀ (f : Nat) (ds es : List Ex) (l : List Tok) (X : Ex) (r : List Tok), (∀ t ∈ l, Good t) → (∀ x ∈ es, okX x ∧ deepE x ≤ 60) → es.length ≤ 3 → P en f (.doms ds es) l = .ok X r → ∃ es', X = progE ds es' ∧ (∀ x ∈ es', okX x ∧ deepE x ≤ 60) ∧ es'.length ≤ 3 ∧ 1 ≤ es'.length
  | 0, _, _, _, _, _, _, _, _, h => by cases h
  | f + 1, ds, es, l, X, r, hg, he, h3, h => by
    have go : es.length < 3 → runC en (P en f) (domC fun e => .call (.doms ds (es ++ [e])) .ret) l = .ok X r → ∃ es', X = progE ds es' ∧ (∀ x ∈ es', okX x ∧ deepE x ≤ 60) ∧ es'.length ≤ 3 ∧ 1 ≤ es'.length := by
      intro h3 h
      obtain ⟨d, q, x, e, q2, e1, _, hx, _, hd, h⟩ := domC_inv h
      obtain ⟨Y, q3, hY, h⟩ := call_inv h
      simp only [runC, Out.ok.injEq] at h
      obtain ⟨rfl, rfl⟩ := h
      subst e1
      have gq := good_tail hg
      have ox := P_ok en f .seq _ _ _ trivial gq hx
      obtain ⟨m, rfl⟩ := P_suffix en f _ _ _ _ hx
      refine doms_ok en f ds (es ++ [x]) q2 _ _ (good_tail (good_part gq)) (fun y hy => ?_) (by simp; omega) hY
      rcases List.mem_append.1 hy with hy | hy
      · exact he y hy
      · rw [List.mem_singleton.1 hy]; exact ⟨ox, hd⟩
    have go2 : runC en (P en f) (if es.length = 3 then .see (isT [100, 111, 109, 97, 105, 110]) (.here .lim) (domC fun e => .call (.doms ds (es ++ [e])) .ret) else domC fun e => .call (.doms ds (es ++ [e])) .ret) l = .ok X r → ∃ es', X = progE ds es' ∧ (∀ x ∈ es', okX x ∧ deepE x ≤ 60) ∧ es'.length ≤ 3 ∧ 1 ≤ es'.length := by
      intro h
      split at h
      · simp only [runC] at h
        split at h
        · cases h
        · rename_i hn
          obtain ⟨d, q, x, e, q2, e1, hd, _⟩ := domC_inv h
          rw [e1] at hn
          exact absurd hd hn
      · exact go (by omega) h
    have h : runC en (P en f) (domsC ds es) l = .ok X r := h
    dsimp only [domsC] at h
    split at h
    · exact go2 h
    · cases l with
      | nil =>
        simp only [runC, hd, Bool.false_eq_true, if_false, Out.ok.injEq] at h
        exact ⟨es, h.1.symm, he, h3, by omega⟩
      | cons t q => exact go2 h
theorem kind_good {en : Nat} {Rr : Sym → List Tok → Out} {n : Nat} {k : Tok → Cmd} {ts r : List Tok} {x : Ex} (hg : ∀ t ∈ ts, Good t) (h : runC en Rr (kindC n k) ts = .ok x r) : ∃ t q, (∀ u ∈ q, Good u) ∧ Good t ∧ t.kind = n ∧ runC en Rr (k t) q = .ok x r := by
  unfold kindC at h
  simp only [runC] at h
  split at h
  · rename_i c
    cases ts with
    | nil => cases h
    | cons t q => exact ⟨t, q, good_tail hg, hg t (by simp), by simpa [hd, isK] using c, h⟩
  · cases h
theorem may_good {en : Nat} {Rr : Sym → List Tok → Out} {s : List UInt8} {a b : Cmd} {ts r : List Tok} {x : Ex} (hg : ∀ t ∈ ts, Good t) (h : runC en Rr (mayC s a b) ts = .ok x r) : ∃ q, (∀ u ∈ q, Good u) ∧ (runC en Rr a q = .ok x r ∨ runC en Rr b q = .ok x r) := by
  unfold mayC at h
  simp only [runC] at h
  split at h
  · cases ts with
    | nil => cases h
    | cons t q => exact ⟨q, good_tail hg, Or.inl h⟩
  · exact ⟨ts, hg, Or.inr h⟩
theorem first_good {en : Nat} {Rr : Sym → List Tok → Out} {k : Int → Cmd} {ts r : List Tok} {x : Ex} (hg : ∀ t ∈ ts, Good t) (h : runC en Rr (firstC k) ts = .ok x r) : ∃ v q, (∀ u ∈ q, Good u) ∧ -999999999 ≤ v ∧ v ≤ 999999999 ∧ runC en Rr (k v) q = .ok x r := by
  obtain ⟨_, q, rfl, _, h⟩ := must_inv h
  obtain ⟨q, gq, h | h⟩ := may_good (good_tail hg) h
  · obtain ⟨t, q, g2, gt, kt, h⟩ := kind_good gq h; have := good_num gt kt; exact ⟨_, q, g2, by omega, by omega, h⟩
  · obtain ⟨t, q, g2, gt, kt, h⟩ := kind_good gq h; have := good_num gt kt; exact ⟨_, q, g2, by omega, by omega, h⟩
theorem decl_good {en : Nat} {Rr : Sym → List Tok → Out} {k : Ex → Cmd} {ts r : List Tok} {x : Ex} (hg : ∀ t ∈ ts, Good t) (h : runC en Rr (declC k) ts = .ok x r) : ∃ d q, (∀ u ∈ q, Good u) ∧ declB (dlE d) = true ∧ (sizeE d : Int) = sizeD (dlE d) ∧ runC en Rr (k d) q = .ok x r := by
  cases ts with
  | nil => cases h
  | cons t ts =>
    simp only [declC, runC] at h
    obtain ⟨n, q, gq, gn, kn, h⟩ := kind_good (good_tail hg) (show runC en Rr (kindC 1 _) ts = .ok x r from h)
    have hn := good_name gn kn
    split at h
    · obtain ⟨v, q, g2, v1, v2, h⟩ := first_good gq h
      exact ⟨_, q, g2, by simp [declB, dlE, Ex.kind, Ex.text, Ex.n, hn, v1, v2], rfl, h⟩
    · split at h
      · obtain ⟨v, q, g2, v1, v2, h⟩ := first_good gq h
        exact ⟨_, q, g2, by simp [declB, dlE, Ex.kind, Ex.text, Ex.n, hn, v1, v2], rfl, h⟩
      · obtain ⟨u, q, g2, gu, ku, h⟩ := kind_good gq h
        split at h
        · cases h
        · rename_i c
          refine ⟨_, q, g2, ?_, ?_, h⟩
          · have c1 : 1 ≤ (u.val : Int) := by omega
            have c2 : (u.val : Int) ≤ 8 := by omega
            simp only [declB, dlE, Ex.kind, Ex.text, Ex.n, hn]
            simp [c1, c2]
          · simp [sizeE, sizeD, dlE, Ex.kind, Ex.n]
theorem sizes_add (ds : List Dl) (d : Dl) : sizesD (ds ++ [d]) = sizesD ds + sizeD d := by unfold sizesD; rw [List.foldl_append]; rfl
theorem decls_ok (en : Nat) : ∀ (f l : Nat) (ds : List Ex) (ts : List Tok) (X : Ex) (r : List Tok), (∀ t ∈ ts, Good t) → (∀ d ∈ ds, declB (dlE d) = true) → ds.length ≤ 8 → sizesD (ds.map dlE) = l → l ≤ 16 → P en f (.decls l ds) ts = .ok X r →
    ∃ ds' es', X = progE ds' es' ∧ (∀ d ∈ ds', declB (dlE d) = true) ∧ ds'.length ≤ 8 ∧ sizesD (ds'.map dlE) ≤ 16 ∧ (∀ x ∈ es', okX x ∧ deepE x ≤ 60) ∧ es'.length ≤ 3 ∧ 1 ≤ es'.length
  | 0, _, _, _, _, _, _, _, _, _, _, h => by cases h
  | f + 1, l, ds, ts, X, r, hg, hd, h8, hl, h16, h => by
    have h : runC en (P en f) (declsC l ds) ts = .ok X r := h
    unfold declsC at h
    simp only [runC] at h
    split at h
    · split at h
      · cases h
      · obtain ⟨d, q, gq, dd, sd, h⟩ := decl_good hg h
        split at h
        · cases h
        · obtain ⟨Y, q3, hY, h⟩ := call_inv h
          simp only [runC, Out.ok.injEq] at h
          obtain ⟨rfl, rfl⟩ := h
          refine decls_ok en f _ _ _ _ _ gq (fun y hy => ?_) (by simp; omega) ?_ (by omega) hY
          · rcases List.mem_append.1 hy with hy | hy
            · exact hd y hy
            · rw [List.mem_singleton.1 hy]; exact dd
          · rw [List.map_append, List.map_cons, List.map_nil, sizes_add, hl, ← sd]; omega
    · cases e : P en f (.doms ds []) ts with
      | ok Y q =>
        rw [e] at h
        simp only [Out.ok.injEq] at h
        obtain ⟨rfl, rfl⟩ := h
        obtain ⟨es', h1, h2, h3, h4⟩ := doms_ok en f ds [] ts _ _ hg (by simp) (by simp) e
        exact ⟨ds, es', h1, hd, h8, by omega, h2, h3, h4⟩
      | no q => rw [e] at h; cases h
      | lim p => rw [e] at h; cases h
      | out => rw [e] at h; cases h
mutual
theorem deep_toX : ∀ x : Ex, deepX (toX x) = deepE x
  | .mk k t o n p l => by simp only [toX, deepE, deepX, deep_toXL l]
theorem deep_toXL : ∀ l : List Ex, deepXL (toXL l) = deepL l
  | [] => rfl
  | e :: r => by simp only [toXL, deepL, deepXL, deep_toX e, deep_toXL r]
end
/-- What is read of a text is formed. -/
theorem read_form {l : List UInt8} {ts : List Tok} {X : Ex} {r : List Tok} (h : lexT l = .ok ts) (hp : parseO l.length ts = .ok X r) : ∃ ds es, X = progE ds es ∧ progB (ds.map dlE) (es.map toX) = true := by
  obtain ⟨ds, es, h1, h2, h3, h4, h5, h6, h7⟩ := decls_ok l.length _ 0 [] ts X r (lex_good h) (by simp) (by simp) rfl (by omega) hp
  refine ⟨ds, es, h1, progB_iff.2 ⟨by simpa using h3, by simpa using h7, by simpa using h6, fun d hd => ?_, fun x hx => ?_, h4⟩⟩
  · obtain ⟨y, hy, rfl⟩ := List.mem_map.1 hd; exact h2 y hy
  · obtain ⟨y, hy, rfl⟩ := List.mem_map.1 hx; rw [deep_toX]; exact h5 y hy
end Go.Proofs.YtkljakeccfnakaaGreatDoor
