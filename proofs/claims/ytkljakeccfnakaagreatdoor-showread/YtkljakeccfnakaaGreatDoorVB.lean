/-
  What formed expressions look like, kind by kind; their words are those of their texts; no program is named here.
-/
import Derived.Test.YtkljakeccfnakaaGreatDoorVA
namespace Go.Proofs.YtkljakeccfnakaaGreatDoor

inductive Shape : Px → Prop
  | num (n p : Int) (h0 : 0 ≤ n) (h1 : n ≤ 999999999) : Shape (.mk 1 [] [] n p [])
  | yes (p : Int) : Shape (.mk 2 [] [] 1 p [])
  | nope (p : Int) : Shape (.mk 2 [] [] 0 p [])
  | unit (p : Int) : Shape (.mk 3 [] [] 0 p [])
  | name (t : List UInt8) (p : Int) (ht : isNameB t = true) : Shape (.mk 4 t [] 0 p [])
  | load (t : List UInt8) (p : Int) (ht : isNameB t = true) : Shape (.mk 10 t [] 0 p [])
  | none (p : Int) : Shape (.mk 18 [] [] 0 p [])
  | seqs (p : Int) (a b : Px) (ha : Shape a) (hb : Shape b) : Shape (.mk 9 [] [] 0 p [a, b])
  | app (p : Int) (a b : Px) (ha : Shape a) (hb : Shape b) : Shape (.mk 8 [] [] 0 p [a, b])
  | tell (p : Int) (a : Px) (ha : Shape a) : Shape (.mk 17 [] [] 0 p [a])
  | some (p : Int) (a : Px) (ha : Shape a) : Shape (.mk 19 [] [] 0 p [a])
  | pair (p : Int) (a b : Px) (ha : Shape a) (hb : Shape b) : Shape (.mk 20 [] [] 0 p [a, b])
  | less (p : Int) (a b : Px) (ha : Shape a) (hb : Shape b) : Shape (.mk 22 [] [] 0 p [a, b])
  | same (p : Int) (a b : Px) (ha : Shape a) (hb : Shape b) : Shape (.mk 23 [] [] 0 p [a, b])
  | cond (p : Int) (a b c : Px) (ha : Shape a) (hb : Shape b) (hc : Shape c) : Shape (.mk 6 [] [] 0 p [a, b, c])
  | lets (t : List UInt8) (p : Int) (ht : isNameB t = true) (a b : Px) (ha : Shape a) (hb : Shape b) : Shape (.mk 5 t [] 0 p [a, b])
  | func (t : List UInt8) (p : Int) (ht : isNameB t = true) (a : Px) (ha : Shape a) : Shape (.mk 7 t [] 0 p [a])
  | store (t : List UInt8) (p : Int) (ht : isNameB t = true) (a : Px) (ha : Shape a) : Shape (.mk 11 t [] 0 p [a])
  | ats (t : List UInt8) (p : Int) (ht : isNameB t = true) (a : Px) (ha : Shape a) : Shape (.mk 12 t [] 0 p [a])
  | put (t : List UInt8) (p : Int) (ht : isNameB t = true) (a b : Px) (ha : Shape a) (hb : Shape b) : Shape (.mk 13 t [] 0 p [a, b])
  | swap (t : List UInt8) (p : Int) (ht : isNameB t = true) (a : Px) (ha : Shape a) : Shape (.mk 14 t [] 0 p [a])
  | inc (t : List UInt8) (p : Int) (ht : isNameB t = true) (a : Px) (ha : Shape a) : Shape (.mk 15 t [] 0 p [a])
  | cas (t : List UInt8) (p : Int) (ht : isNameB t = true) (a b : Px) (ha : Shape a) (hb : Shape b) : Shape (.mk 16 t [] 0 p [a, b])
  | op (t : List UInt8) (p : Int) (ht : t = [43] ∨ t = [45] ∨ t = [42] ∨ t = [47]) (a b : Px) (ha : Shape a) (hb : Shape b) : Shape (.mk 21 t [] 0 p [a, b])
  | pairs (t o : List UInt8) (p : Int) (ht : isNameB t = true) (ho : isNameB o = true) (a b : Px) (ha : Shape a) (hb : Shape b) : Shape (.mk 25 t o 0 p [a, b])
  | one (p q : Int) (a b : Px) (ha : Shape a) (hb : Shape b) : Shape (.mk 24 [] [] 1 p [a, b, .mk 3 [] [] 0 q []])
  | two (t : List UInt8) (p q : Int) (ht : isNameB t = true) (a c : Px) (ha : Shape a) (hc : Shape c) : Shape (.mk 24 t [] 2 p [a, .mk 3 [] [] 0 q [], c])
  | both (t : List UInt8) (p : Int) (ht : isNameB t = true) (a b c : Px) (ha : Shape a) (hb : Shape b) (hc : Shape c) : Shape (.mk 24 t [] 3 p [a, b, c])
theorem len0 {l : List Px} (h : (l.length : Int) = 0) : l = [] := List.eq_nil_of_length_eq_zero (by omega)
theorem len1 {l : List Px} (h : (l.length : Int) = 1) : ∃ a, l = [a] := by
  match l, h with
  | [a], _ => exact ⟨a, rfl⟩
  | [], h => simp at h
  | _ :: _ :: _, h => simp only [List.length_cons] at h; omega
theorem len2 {l : List Px} (h : (l.length : Int) = 2) : ∃ a b, l = [a, b] := by
  match l, h with
  | [a, b], _ => exact ⟨a, b, rfl⟩
  | [], h => simp at h
  | [_], h => simp at h
  | _ :: _ :: _ :: _, h => simp only [List.length_cons] at h; omega
theorem len3 {l : List Px} (h : (l.length : Int) = 3) : ∃ a b c, l = [a, b, c] := by
  match l, h with
  | [a, b, c], _ => exact ⟨a, b, c, rfl⟩
  | [], h => simp at h
  | [_], h => simp at h
  | [_, _], h => simp at h
  | _ :: _ :: _ :: _ :: _, h => simp only [List.length_cons] at h; omega
theorem wf_unit {c : Px} (h : wfX c = true) (hk : c.kind = 3) : ∃ q, c = .mk 3 [] [] 0 q [] := by
  obtain ⟨k, t, o, n, p, l⟩ := c
  simp only [Px.kind] at hk
  subst hk
  simp only [wfX, nodeB, Bool.and_eq_true, beq_iff_eq] at h
  obtain ⟨⟨⟨⟨⟨h1, h2⟩, h3⟩, h4⟩, _⟩, _⟩ := h
  have e1 := len0 (h1.trans (by decide))
  have e2 : t = [] := by simpa [textB, usesB] using h2
  have e3 : o = [] := by simpa [otherB] using h3
  have e4 : n = 0 := by simpa [numB] using h4
  subst e1 e2 e3 e4
  exact ⟨p, rfl⟩
set_option maxHeartbeats 4000000 in
mutual
theorem shape_of : ∀ x : Px, wfX x = true → Shape x
  | .mk k t o n p l => by
    intro h
    have hl := shapeL_of l
    simp only [wfX, nodeB, Bool.and_eq_true, beq_iff_eq] at h
    obtain ⟨⟨⟨⟨⟨h1, h2⟩, h3⟩, h4⟩, h5⟩, h6⟩ := h
    have hS := hl h6
    clear hl
    rw [wfXL_all] at h6
    have hk : 1 ≤ k ∧ k ≤ 25 := by
      apply Classical.byContradiction
      intro hc
      have := kidsN_out (k := k) (by omega)
      omega
    rcases kinds25 hk.1 hk.2 with rfl | rfl | rfl | rfl | rfl | rfl | rfl | rfl | rfl | rfl | rfl | rfl | rfl | rfl | rfl | rfl | rfl | rfl | rfl | rfl | rfl | rfl | rfl | rfl | rfl
    · skip
      obtain rfl := len0 (h1.trans (by decide))
      obtain rfl : t = [] := by simpa [textB, usesB] using h2
      obtain rfl : o = [] := by simpa [otherB] using h3
      have h7 : 0 ≤ n ∧ n ≤ 999999999 := by simpa [numB] using h4
      exact .num n p h7.1 h7.2
    · skip
      obtain rfl := len0 (h1.trans (by decide))
      obtain rfl : t = [] := by simpa [textB, usesB] using h2
      obtain rfl : o = [] := by simpa [otherB] using h3
      have h7 : n = 0 ∨ n = 1 := by simpa [numB] using h4
      rcases h7 with rfl | rfl
      · exact .nope p
      · exact .yes p
    · skip
      obtain rfl := len0 (h1.trans (by decide))
      obtain rfl : t = [] := by simpa [textB, usesB] using h2
      obtain rfl : o = [] := by simpa [otherB] using h3
      obtain rfl : n = 0 := by simpa [numB] using h4
      exact .unit p
    · skip
      obtain rfl := len0 (h1.trans (by decide))
      have ht : isNameB t = true := by simpa [textB, usesB] using h2
      obtain rfl : o = [] := by simpa [otherB] using h3
      obtain rfl : n = 0 := by simpa [numB] using h4
      exact .name t p ht
    · skip
      obtain ⟨a, b, rfl⟩ := len2 (h1.trans (by decide))
      have ha := hS a (by simp)
      have hb := hS b (by simp)
      have ht : isNameB t = true := by simpa [textB, usesB] using h2
      obtain rfl : o = [] := by simpa [otherB] using h3
      obtain rfl : n = 0 := by simpa [numB] using h4
      exact .lets t p ht a b ha hb
    · skip
      obtain ⟨a, b, c, rfl⟩ := len3 (h1.trans (by decide))
      have ha := hS a (by simp)
      have hb := hS b (by simp)
      have hc := hS c (by simp)
      obtain rfl : t = [] := by simpa [textB, usesB] using h2
      obtain rfl : o = [] := by simpa [otherB] using h3
      obtain rfl : n = 0 := by simpa [numB] using h4
      exact .cond p a b c ha hb hc
    · skip
      obtain ⟨a, rfl⟩ := len1 (h1.trans (by decide))
      have ha := hS a (by simp)
      have ht : isNameB t = true := by simpa [textB, usesB] using h2
      obtain rfl : o = [] := by simpa [otherB] using h3
      obtain rfl : n = 0 := by simpa [numB] using h4
      exact .func t p ht a ha
    · skip
      obtain ⟨a, b, rfl⟩ := len2 (h1.trans (by decide))
      have ha := hS a (by simp)
      have hb := hS b (by simp)
      obtain rfl : t = [] := by simpa [textB, usesB] using h2
      obtain rfl : o = [] := by simpa [otherB] using h3
      obtain rfl : n = 0 := by simpa [numB] using h4
      exact .app p a b ha hb
    · skip
      obtain ⟨a, b, rfl⟩ := len2 (h1.trans (by decide))
      have ha := hS a (by simp)
      have hb := hS b (by simp)
      obtain rfl : t = [] := by simpa [textB, usesB] using h2
      obtain rfl : o = [] := by simpa [otherB] using h3
      obtain rfl : n = 0 := by simpa [numB] using h4
      exact .seqs p a b ha hb
    · skip
      obtain rfl := len0 (h1.trans (by decide))
      have ht : isNameB t = true := by simpa [textB, usesB] using h2
      obtain rfl : o = [] := by simpa [otherB] using h3
      obtain rfl : n = 0 := by simpa [numB] using h4
      exact .load t p ht
    · skip
      obtain ⟨a, rfl⟩ := len1 (h1.trans (by decide))
      have ha := hS a (by simp)
      have ht : isNameB t = true := by simpa [textB, usesB] using h2
      obtain rfl : o = [] := by simpa [otherB] using h3
      obtain rfl : n = 0 := by simpa [numB] using h4
      exact .store t p ht a ha
    · skip
      obtain ⟨a, rfl⟩ := len1 (h1.trans (by decide))
      have ha := hS a (by simp)
      have ht : isNameB t = true := by simpa [textB, usesB] using h2
      obtain rfl : o = [] := by simpa [otherB] using h3
      obtain rfl : n = 0 := by simpa [numB] using h4
      exact .ats t p ht a ha
    · skip
      obtain ⟨a, b, rfl⟩ := len2 (h1.trans (by decide))
      have ha := hS a (by simp)
      have hb := hS b (by simp)
      have ht : isNameB t = true := by simpa [textB, usesB] using h2
      obtain rfl : o = [] := by simpa [otherB] using h3
      obtain rfl : n = 0 := by simpa [numB] using h4
      exact .put t p ht a b ha hb
    · skip
      obtain ⟨a, rfl⟩ := len1 (h1.trans (by decide))
      have ha := hS a (by simp)
      have ht : isNameB t = true := by simpa [textB, usesB] using h2
      obtain rfl : o = [] := by simpa [otherB] using h3
      obtain rfl : n = 0 := by simpa [numB] using h4
      exact .swap t p ht a ha
    · skip
      obtain ⟨a, rfl⟩ := len1 (h1.trans (by decide))
      have ha := hS a (by simp)
      have ht : isNameB t = true := by simpa [textB, usesB] using h2
      obtain rfl : o = [] := by simpa [otherB] using h3
      obtain rfl : n = 0 := by simpa [numB] using h4
      exact .inc t p ht a ha
    · skip
      obtain ⟨a, b, rfl⟩ := len2 (h1.trans (by decide))
      have ha := hS a (by simp)
      have hb := hS b (by simp)
      have ht : isNameB t = true := by simpa [textB, usesB] using h2
      obtain rfl : o = [] := by simpa [otherB] using h3
      obtain rfl : n = 0 := by simpa [numB] using h4
      exact .cas t p ht a b ha hb
    · skip
      obtain ⟨a, rfl⟩ := len1 (h1.trans (by decide))
      have ha := hS a (by simp)
      obtain rfl : t = [] := by simpa [textB, usesB] using h2
      obtain rfl : o = [] := by simpa [otherB] using h3
      obtain rfl : n = 0 := by simpa [numB] using h4
      exact .tell p a ha
    · skip
      obtain rfl := len0 (h1.trans (by decide))
      obtain rfl : t = [] := by simpa [textB, usesB] using h2
      obtain rfl : o = [] := by simpa [otherB] using h3
      obtain rfl : n = 0 := by simpa [numB] using h4
      exact .none p
    · skip
      obtain ⟨a, rfl⟩ := len1 (h1.trans (by decide))
      have ha := hS a (by simp)
      obtain rfl : t = [] := by simpa [textB, usesB] using h2
      obtain rfl : o = [] := by simpa [otherB] using h3
      obtain rfl : n = 0 := by simpa [numB] using h4
      exact .some p a ha
    · skip
      obtain ⟨a, b, rfl⟩ := len2 (h1.trans (by decide))
      have ha := hS a (by simp)
      have hb := hS b (by simp)
      obtain rfl : t = [] := by simpa [textB, usesB] using h2
      obtain rfl : o = [] := by simpa [otherB] using h3
      obtain rfl : n = 0 := by simpa [numB] using h4
      exact .pair p a b ha hb
    · skip
      obtain ⟨a, b, rfl⟩ := len2 (h1.trans (by decide))
      have ha := hS a (by simp)
      have hb := hS b (by simp)
      have ht : t = [43] ∨ t = [45] ∨ t = [42] ∨ t = [47] := by simpa [textB, usesB, opB] using h2
      obtain rfl : o = [] := by simpa [otherB] using h3
      obtain rfl : n = 0 := by simpa [numB] using h4
      exact .op t p ht a b ha hb
    · skip
      obtain ⟨a, b, rfl⟩ := len2 (h1.trans (by decide))
      have ha := hS a (by simp)
      have hb := hS b (by simp)
      obtain rfl : t = [] := by simpa [textB, usesB] using h2
      obtain rfl : o = [] := by simpa [otherB] using h3
      obtain rfl : n = 0 := by simpa [numB] using h4
      exact .less p a b ha hb
    · skip
      obtain ⟨a, b, rfl⟩ := len2 (h1.trans (by decide))
      have ha := hS a (by simp)
      have hb := hS b (by simp)
      obtain rfl : t = [] := by simpa [textB, usesB] using h2
      obtain rfl : o = [] := by simpa [otherB] using h3
      obtain rfl : n = 0 := by simpa [numB] using h4
      exact .same p a b ha hb
    · skip
      obtain ⟨a, b, c, rfl⟩ := len3 (h1.trans (by decide))
      have ha := hS a (by simp)
      have hb := hS b (by simp)
      have hc := hS c (by simp)
      obtain rfl : o = [] := by simpa [otherB] using h3
      have h7 : 1 ≤ n ∧ n ≤ 3 := by simpa [numB] using h4
      obtain ⟨h8, h9⟩ : (n ≠ 2 ∨ b.kind = 3) ∧ (n ≠ 1 ∨ c.kind = 3) := by simpa [armsB, kindAt] using h5
      simp only [List.all_cons, List.all_nil, Bool.and_true, Bool.and_eq_true] at h6
      obtain ⟨_, w2, w3⟩ := h6
      obtain rfl | rfl | rfl : n = 1 ∨ n = 2 ∨ n = 3 := by omega
      · obtain rfl : t = [] := by simpa [textB, usesB] using h2
        obtain ⟨q, rfl⟩ := wf_unit w3 (h9.resolve_left (fun h => h rfl))
        exact .one p q a b ha hb
      · have ht : isNameB t = true := by simpa [textB, usesB] using h2
        obtain ⟨q, rfl⟩ := wf_unit w2 (h8.resolve_left (fun h => h rfl))
        exact .two t p q ht a c ha hc
      · have ht : isNameB t = true := by simpa [textB, usesB] using h2
        exact .both t p ht a b c ha hb hc
    · skip
      obtain ⟨a, b, rfl⟩ := len2 (h1.trans (by decide))
      have ha := hS a (by simp)
      have hb := hS b (by simp)
      have ht : isNameB t = true := by simpa [textB, usesB] using h2
      have ho : isNameB o = true := by simpa [otherB] using h3
      obtain rfl : n = 0 := by simpa [numB] using h4
      exact .pairs t o p ht ho a b ha hb
theorem shapeL_of : ∀ l : List Px, wfXL l = true → ∀ x ∈ l, Shape x
  | [] => fun _ x h => absurd h (by simp)
  | e :: r => by
    intro h x hx
    simp only [wfXL, Bool.and_eq_true] at h
    rcases List.mem_cons.1 hx with hx | hx
    · rw [hx]; exact shape_of e h.1
    · exact shapeL_of r h.2 x hx
end

/-- A text that is spelt so ahead of whatever does not go on with it. -/
def Spx (z : List UInt8) (ts : List Tok) : Prop := ∀ (r : List UInt8) (us : List Tok), Cut r → Spell r us → Spell (z ++ r) (ts ++ us)
theorem itoa_nat {n : Int} (h : 0 ≤ n) : Lib.itoa n = Lib.decDigits n.toNat := by
  first
    | (unfold Lib.itoa; rw [if_neg (by omega)]; done)
    | (unfold Lib.itoa; simp [show ¬ n < 0 by omega]; done)

set_option maxHeartbeats 8000000 in
theorem shape_spx {x : Px} (h : Shape x) : Spx (shwX x) (tkX x) := by
  induction h with
  | num n p h0 h1 =>
    intro r us hr hs
    show Spell (([] ++ Lib.itoa n) ++ r) (tV n.toNat :: us)
    rw [itoa_nat h0]
    exact sp_num (by omega) hr hs
  | yes p => intro r us hr hs; exact sp_key [116, 114, 117, 101] (by decide) hr hs
  | nope p => intro r us hr hs; exact sp_key [102, 97, 108, 115, 101] (by decide) hr hs
  | unit p => intro r us hr hs; exact sp_lone (by decide) (sp_lone (by decide) hs)
  | name t p ht => intro r us hr hs; exact sp_name ht hr hs
  | load t p ht => intro r us hr hs; exact sp_lone (by decide) (sp_name ht hr hs)
  | none p => intro r us hr hs; exact sp_key [110, 111, 110, 101] (by decide) hr hs
  | seqs p a b ha hb iha ihb =>
    intro r us hr hs
    simp only [shwX, tkX, shwXL, tkXL, pcs, pick3, tkW, weave, wv, List.length_cons, List.length_nil, List.getD_cons_zero, List.getD_cons_succ, List.getElem?_cons_zero, List.getElem?_cons_succ, List.filterMap_cons, List.filterMap_nil, id, reduceIte, Int.reduceEq, Nat.reduceAdd, Nat.reduceSub, List.nil_append, List.append_nil, List.append_assoc, List.cons_append, Nat.reduceAdd, Nat.zero_add, Nat.add_one_ne_zero, Nat.add_one_sub_one]
    refine sp_lone (by decide) ?_
    refine iha _ _ (cut_cons rfl) ?_
    refine sp_lone (by decide) ?_
    refine sp_blank ?_
    refine ihb _ _ (cut_cons rfl) ?_
    refine sp_lone (by decide) ?_
    exact hs
  | app p a b ha hb iha ihb =>
    intro r us hr hs
    simp only [shwX, tkX, shwXL, tkXL, pcs, pick3, tkW, weave, wv, List.length_cons, List.length_nil, List.getD_cons_zero, List.getD_cons_succ, List.getElem?_cons_zero, List.getElem?_cons_succ, List.filterMap_cons, List.filterMap_nil, id, reduceIte, Int.reduceEq, Nat.reduceAdd, Nat.reduceSub, List.nil_append, List.append_nil, List.append_assoc, List.cons_append, Nat.reduceAdd, Nat.zero_add, Nat.add_one_ne_zero, Nat.add_one_sub_one]
    refine sp_lone (by decide) ?_
    refine iha _ _ (cut_cons rfl) ?_
    refine sp_blank ?_
    refine ihb _ _ (cut_cons rfl) ?_
    refine sp_lone (by decide) ?_
    exact hs
  | tell p a ha iha =>
    intro r us hr hs
    simp only [shwX, tkX, shwXL, tkXL, pcs, pick3, tkW, weave, wv, List.length_cons, List.length_nil, List.getD_cons_zero, List.getD_cons_succ, List.getElem?_cons_zero, List.getElem?_cons_succ, List.filterMap_cons, List.filterMap_nil, id, reduceIte, Int.reduceEq, Nat.reduceAdd, Nat.reduceSub, List.nil_append, List.append_nil, List.append_assoc, List.cons_append, Nat.reduceAdd, Nat.zero_add, Nat.add_one_ne_zero, Nat.add_one_sub_one]
    refine sp_lone (by decide) ?_
    refine sp_key [112, 114, 105, 110, 116] (by decide) (cut_cons rfl) ?_
    refine sp_blank ?_
    refine iha _ _ (cut_cons rfl) ?_
    refine sp_lone (by decide) ?_
    exact hs
  | some p a ha iha =>
    intro r us hr hs
    simp only [shwX, tkX, shwXL, tkXL, pcs, pick3, tkW, weave, wv, List.length_cons, List.length_nil, List.getD_cons_zero, List.getD_cons_succ, List.getElem?_cons_zero, List.getElem?_cons_succ, List.filterMap_cons, List.filterMap_nil, id, reduceIte, Int.reduceEq, Nat.reduceAdd, Nat.reduceSub, List.nil_append, List.append_nil, List.append_assoc, List.cons_append, Nat.reduceAdd, Nat.zero_add, Nat.add_one_ne_zero, Nat.add_one_sub_one]
    refine sp_lone (by decide) ?_
    refine sp_key [115, 111, 109, 101] (by decide) (cut_cons rfl) ?_
    refine sp_blank ?_
    refine iha _ _ (cut_cons rfl) ?_
    refine sp_lone (by decide) ?_
    exact hs
  | pair p a b ha hb iha ihb =>
    intro r us hr hs
    simp only [shwX, tkX, shwXL, tkXL, pcs, pick3, tkW, weave, wv, List.length_cons, List.length_nil, List.getD_cons_zero, List.getD_cons_succ, List.getElem?_cons_zero, List.getElem?_cons_succ, List.filterMap_cons, List.filterMap_nil, id, reduceIte, Int.reduceEq, Nat.reduceAdd, Nat.reduceSub, List.nil_append, List.append_nil, List.append_assoc, List.cons_append, Nat.reduceAdd, Nat.zero_add, Nat.add_one_ne_zero, Nat.add_one_sub_one]
    refine sp_lone (by decide) ?_
    refine iha _ _ (cut_cons rfl) ?_
    refine sp_lone (by decide) ?_
    refine sp_blank ?_
    refine ihb _ _ (cut_cons rfl) ?_
    refine sp_lone (by decide) ?_
    exact hs
  | less p a b ha hb iha ihb =>
    intro r us hr hs
    simp only [shwX, tkX, shwXL, tkXL, pcs, pick3, tkW, weave, wv, List.length_cons, List.length_nil, List.getD_cons_zero, List.getD_cons_succ, List.getElem?_cons_zero, List.getElem?_cons_succ, List.filterMap_cons, List.filterMap_nil, id, reduceIte, Int.reduceEq, Nat.reduceAdd, Nat.reduceSub, List.nil_append, List.append_nil, List.append_assoc, List.cons_append, Nat.reduceAdd, Nat.zero_add, Nat.add_one_ne_zero, Nat.add_one_sub_one]
    refine sp_lone (by decide) ?_
    refine iha _ _ (cut_cons rfl) ?_
    refine sp_blank ?_
    refine sp_apart (by decide) ?_
    refine sp_blank ?_
    refine ihb _ _ (cut_cons rfl) ?_
    refine sp_lone (by decide) ?_
    exact hs
  | same p a b ha hb iha ihb =>
    intro r us hr hs
    simp only [shwX, tkX, shwXL, tkXL, pcs, pick3, tkW, weave, wv, List.length_cons, List.length_nil, List.getD_cons_zero, List.getD_cons_succ, List.getElem?_cons_zero, List.getElem?_cons_succ, List.filterMap_cons, List.filterMap_nil, id, reduceIte, Int.reduceEq, Nat.reduceAdd, Nat.reduceSub, List.nil_append, List.append_nil, List.append_assoc, List.cons_append, Nat.reduceAdd, Nat.zero_add, Nat.add_one_ne_zero, Nat.add_one_sub_one]
    refine sp_lone (by decide) ?_
    refine iha _ _ (cut_cons rfl) ?_
    refine sp_blank ?_
    refine sp_lone (by decide) ?_
    refine sp_blank ?_
    refine ihb _ _ (cut_cons rfl) ?_
    refine sp_lone (by decide) ?_
    exact hs
  | cond p a b c ha hb hc iha ihb ihc =>
    intro r us hr hs
    simp only [shwX, tkX, shwXL, tkXL, pcs, pick3, tkW, weave, wv, List.length_cons, List.length_nil, List.getD_cons_zero, List.getD_cons_succ, List.getElem?_cons_zero, List.getElem?_cons_succ, List.filterMap_cons, List.filterMap_nil, id, reduceIte, Int.reduceEq, Nat.reduceAdd, Nat.reduceSub, List.nil_append, List.append_nil, List.append_assoc, List.cons_append, Nat.reduceAdd, Nat.zero_add, Nat.add_one_ne_zero, Nat.add_one_sub_one]
    refine sp_lone (by decide) ?_
    refine sp_key [105, 102] (by decide) (cut_cons rfl) ?_
    refine sp_blank ?_
    refine iha _ _ (cut_cons rfl) ?_
    refine sp_blank ?_
    refine sp_key [116, 104, 101, 110] (by decide) (cut_cons rfl) ?_
    refine sp_blank ?_
    refine ihb _ _ (cut_cons rfl) ?_
    refine sp_blank ?_
    refine sp_key [101, 108, 115, 101] (by decide) (cut_cons rfl) ?_
    refine sp_blank ?_
    refine ihc _ _ (cut_cons rfl) ?_
    refine sp_lone (by decide) ?_
    exact hs
  | lets t p ht a b ha hb iha ihb =>
    intro r us hr hs
    simp only [shwX, tkX, shwXL, tkXL, pcs, pick3, tkW, weave, wv, List.length_cons, List.length_nil, List.getD_cons_zero, List.getD_cons_succ, List.getElem?_cons_zero, List.getElem?_cons_succ, List.filterMap_cons, List.filterMap_nil, id, reduceIte, Int.reduceEq, Nat.reduceAdd, Nat.reduceSub, List.nil_append, List.append_nil, List.append_assoc, List.cons_append, Nat.reduceAdd, Nat.zero_add, Nat.add_one_ne_zero, Nat.add_one_sub_one]
    refine sp_lone (by decide) ?_
    refine sp_key [108, 101, 116] (by decide) (cut_cons rfl) ?_
    refine sp_blank ?_
    refine sp_name ht (cut_cons rfl) ?_
    refine sp_blank ?_
    refine sp_lone (by decide) ?_
    refine sp_blank ?_
    refine iha _ _ (cut_cons rfl) ?_
    refine sp_blank ?_
    refine sp_key [105, 110] (by decide) (cut_cons rfl) ?_
    refine sp_blank ?_
    refine ihb _ _ (cut_cons rfl) ?_
    refine sp_lone (by decide) ?_
    exact hs
  | func t p ht a ha iha =>
    intro r us hr hs
    simp only [shwX, tkX, shwXL, tkXL, pcs, pick3, tkW, weave, wv, List.length_cons, List.length_nil, List.getD_cons_zero, List.getD_cons_succ, List.getElem?_cons_zero, List.getElem?_cons_succ, List.filterMap_cons, List.filterMap_nil, id, reduceIte, Int.reduceEq, Nat.reduceAdd, Nat.reduceSub, List.nil_append, List.append_nil, List.append_assoc, List.cons_append, Nat.reduceAdd, Nat.zero_add, Nat.add_one_ne_zero, Nat.add_one_sub_one]
    refine sp_lone (by decide) ?_
    refine sp_key [102, 117, 110] (by decide) (cut_cons rfl) ?_
    refine sp_blank ?_
    refine sp_name ht (cut_cons rfl) ?_
    refine sp_blank ?_
    refine sp_two (by decide) ?_
    refine sp_blank ?_
    refine iha _ _ (cut_cons rfl) ?_
    refine sp_lone (by decide) ?_
    exact hs
  | store t p ht a ha iha =>
    intro r us hr hs
    simp only [shwX, tkX, shwXL, tkXL, pcs, pick3, tkW, weave, wv, List.length_cons, List.length_nil, List.getD_cons_zero, List.getD_cons_succ, List.getElem?_cons_zero, List.getElem?_cons_succ, List.filterMap_cons, List.filterMap_nil, id, reduceIte, Int.reduceEq, Nat.reduceAdd, Nat.reduceSub, List.nil_append, List.append_nil, List.append_assoc, List.cons_append, Nat.reduceAdd, Nat.zero_add, Nat.add_one_ne_zero, Nat.add_one_sub_one]
    refine sp_lone (by decide) ?_
    refine sp_name ht (cut_cons rfl) ?_
    refine sp_blank ?_
    refine sp_two (by decide) ?_
    refine sp_blank ?_
    refine iha _ _ (cut_cons rfl) ?_
    refine sp_lone (by decide) ?_
    exact hs
  | ats t p ht a ha iha =>
    intro r us hr hs
    simp only [shwX, tkX, shwXL, tkXL, pcs, pick3, tkW, weave, wv, List.length_cons, List.length_nil, List.getD_cons_zero, List.getD_cons_succ, List.getElem?_cons_zero, List.getElem?_cons_succ, List.filterMap_cons, List.filterMap_nil, id, reduceIte, Int.reduceEq, Nat.reduceAdd, Nat.reduceSub, List.nil_append, List.append_nil, List.append_assoc, List.cons_append, Nat.reduceAdd, Nat.zero_add, Nat.add_one_ne_zero, Nat.add_one_sub_one]
    refine sp_name ht (cut_cons rfl) ?_
    refine sp_two (by decide) ?_
    refine iha _ _ (cut_cons rfl) ?_
    refine sp_lone (by decide) ?_
    exact hs
  | put t p ht a b ha hb iha ihb =>
    intro r us hr hs
    simp only [shwX, tkX, shwXL, tkXL, pcs, pick3, tkW, weave, wv, List.length_cons, List.length_nil, List.getD_cons_zero, List.getD_cons_succ, List.getElem?_cons_zero, List.getElem?_cons_succ, List.filterMap_cons, List.filterMap_nil, id, reduceIte, Int.reduceEq, Nat.reduceAdd, Nat.reduceSub, List.nil_append, List.append_nil, List.append_assoc, List.cons_append, Nat.reduceAdd, Nat.zero_add, Nat.add_one_ne_zero, Nat.add_one_sub_one]
    refine sp_lone (by decide) ?_
    refine sp_name ht (cut_cons rfl) ?_
    refine sp_two (by decide) ?_
    refine iha _ _ (cut_cons rfl) ?_
    refine sp_lone (by decide) ?_
    refine sp_blank ?_
    refine sp_two (by decide) ?_
    refine sp_blank ?_
    refine ihb _ _ (cut_cons rfl) ?_
    refine sp_lone (by decide) ?_
    exact hs
  | swap t p ht a ha iha =>
    intro r us hr hs
    simp only [shwX, tkX, shwXL, tkXL, pcs, pick3, tkW, weave, wv, List.length_cons, List.length_nil, List.getD_cons_zero, List.getD_cons_succ, List.getElem?_cons_zero, List.getElem?_cons_succ, List.filterMap_cons, List.filterMap_nil, id, reduceIte, Int.reduceEq, Nat.reduceAdd, Nat.reduceSub, List.nil_append, List.append_nil, List.append_assoc, List.cons_append, Nat.reduceAdd, Nat.zero_add, Nat.add_one_ne_zero, Nat.add_one_sub_one]
    refine sp_lone (by decide) ?_
    refine sp_key [115, 119, 97, 112] (by decide) (cut_cons rfl) ?_
    refine sp_blank ?_
    refine sp_name ht (cut_cons rfl) ?_
    refine sp_blank ?_
    refine iha _ _ (cut_cons rfl) ?_
    refine sp_lone (by decide) ?_
    exact hs
  | inc t p ht a ha iha =>
    intro r us hr hs
    simp only [shwX, tkX, shwXL, tkXL, pcs, pick3, tkW, weave, wv, List.length_cons, List.length_nil, List.getD_cons_zero, List.getD_cons_succ, List.getElem?_cons_zero, List.getElem?_cons_succ, List.filterMap_cons, List.filterMap_nil, id, reduceIte, Int.reduceEq, Nat.reduceAdd, Nat.reduceSub, List.nil_append, List.append_nil, List.append_assoc, List.cons_append, Nat.reduceAdd, Nat.zero_add, Nat.add_one_ne_zero, Nat.add_one_sub_one]
    refine sp_lone (by decide) ?_
    refine sp_key [97, 100, 100] (by decide) (cut_cons rfl) ?_
    refine sp_blank ?_
    refine sp_name ht (cut_cons rfl) ?_
    refine sp_blank ?_
    refine iha _ _ (cut_cons rfl) ?_
    refine sp_lone (by decide) ?_
    exact hs
  | cas t p ht a b ha hb iha ihb =>
    intro r us hr hs
    simp only [shwX, tkX, shwXL, tkXL, pcs, pick3, tkW, weave, wv, List.length_cons, List.length_nil, List.getD_cons_zero, List.getD_cons_succ, List.getElem?_cons_zero, List.getElem?_cons_succ, List.filterMap_cons, List.filterMap_nil, id, reduceIte, Int.reduceEq, Nat.reduceAdd, Nat.reduceSub, List.nil_append, List.append_nil, List.append_assoc, List.cons_append, Nat.reduceAdd, Nat.zero_add, Nat.add_one_ne_zero, Nat.add_one_sub_one]
    refine sp_lone (by decide) ?_
    refine sp_key [99, 97, 115] (by decide) (cut_cons rfl) ?_
    refine sp_blank ?_
    refine sp_name ht (cut_cons rfl) ?_
    refine sp_blank ?_
    refine iha _ _ (cut_cons rfl) ?_
    refine sp_blank ?_
    refine ihb _ _ (cut_cons rfl) ?_
    refine sp_lone (by decide) ?_
    exact hs
  | op t p ht a b ha hb iha ihb =>
    intro r us hr hs
    simp only [shwX, tkX, shwXL, tkXL, pcs, pick3, tkW, weave, wv, List.length_cons, List.length_nil, List.getD_cons_zero, List.getD_cons_succ, List.getElem?_cons_zero, List.getElem?_cons_succ, List.filterMap_cons, List.filterMap_nil, id, reduceIte, Int.reduceEq, Nat.reduceAdd, Nat.reduceSub, List.nil_append, List.append_nil, List.append_assoc, List.cons_append, Nat.reduceAdd, Nat.zero_add, Nat.add_one_ne_zero, Nat.add_one_sub_one]
    refine sp_lone (by decide) ?_
    refine iha _ _ (cut_cons rfl) ?_
    refine sp_blank ?_
    have hop : Spell (t ++ 32 :: (shwX b ++ 41 :: r)) (tS t :: (tkX b ++ tS [41] :: us)) := by
      rcases ht with rfl | rfl | rfl | rfl
      · refine sp_lone (by decide) ?_
        refine sp_blank ?_
        refine ihb _ _ (cut_cons rfl) ?_
        exact sp_lone (by decide) hs
      · refine sp_apart (by decide) ?_
        refine sp_blank ?_
        refine ihb _ _ (cut_cons rfl) ?_
        exact sp_lone (by decide) hs
      · refine sp_lone (by decide) ?_
        refine sp_blank ?_
        refine ihb _ _ (cut_cons rfl) ?_
        exact sp_lone (by decide) hs
      · refine sp_lone (by decide) ?_
        refine sp_blank ?_
        refine ihb _ _ (cut_cons rfl) ?_
        exact sp_lone (by decide) hs
    exact hop
  | pairs t o p ht ho a b ha hb iha ihb =>
    intro r us hr hs
    simp only [shwX, tkX, shwXL, tkXL, pcs, pick3, tkW, weave, wv, List.length_cons, List.length_nil, List.getD_cons_zero, List.getD_cons_succ, List.getElem?_cons_zero, List.getElem?_cons_succ, List.filterMap_cons, List.filterMap_nil, id, reduceIte, Int.reduceEq, Nat.reduceAdd, Nat.reduceSub, List.nil_append, List.append_assoc, List.cons_append, Nat.reduceAdd, Nat.zero_add, Nat.add_one_ne_zero, Nat.add_one_sub_one]
    refine sp_lone (by decide) ?_
    refine sp_key [109, 97, 116, 99, 104] (by decide) (cut_cons rfl) ?_
    refine sp_blank ?_
    refine iha _ _ (cut_cons rfl) ?_
    refine sp_blank ?_
    refine sp_key [119, 105, 116, 104] (by decide) (cut_cons rfl) ?_
    refine sp_blank ?_
    refine sp_lone (by decide) ?_
    refine sp_name ht (cut_cons rfl) ?_
    refine sp_lone (by decide) ?_
    refine sp_blank ?_
    refine sp_name ho (cut_cons rfl) ?_
    refine sp_lone (by decide) ?_
    refine sp_blank ?_
    refine sp_two (by decide) ?_
    refine sp_blank ?_
    refine ihb _ _ (cut_cons rfl) ?_
    refine sp_lone (by decide) ?_
    exact hs
  | one p q a b ha hb iha ihb =>
    intro r us hr hs
    simp only [shwX, tkX, shwXL, tkXL, pcs, pick3, tkW, weave, wv, List.length_cons, List.length_nil, List.getD_cons_zero, List.getD_cons_succ, List.getElem?_cons_zero, List.getElem?_cons_succ, List.filterMap_cons, List.filterMap_nil, id, reduceIte, Int.reduceEq, Nat.reduceAdd, Nat.reduceSub, List.nil_append, List.append_nil, List.append_assoc, List.cons_append, Nat.reduceAdd, Nat.zero_add, Nat.add_one_ne_zero, Nat.add_one_sub_one]
    refine sp_lone (by decide) ?_
    refine sp_key [109, 97, 116, 99, 104] (by decide) (cut_cons rfl) ?_
    refine sp_blank ?_
    refine iha _ _ (cut_cons rfl) ?_
    refine sp_blank ?_
    refine sp_key [119, 105, 116, 104] (by decide) (cut_cons rfl) ?_
    refine sp_blank ?_
    refine sp_key [110, 111, 110, 101] (by decide) (cut_cons rfl) ?_
    refine sp_blank ?_
    refine sp_two (by decide) ?_
    refine sp_blank ?_
    refine ihb _ _ (cut_cons rfl) ?_
    refine sp_lone (by decide) ?_
    exact hs
  | two t p q ht a c ha hc iha ihc =>
    intro r us hr hs
    simp only [shwX, tkX, shwXL, tkXL, pcs, pick3, tkW, weave, wv, List.length_cons, List.length_nil, List.getD_cons_zero, List.getD_cons_succ, List.getElem?_cons_zero, List.getElem?_cons_succ, List.filterMap_cons, List.filterMap_nil, id, reduceIte, Int.reduceEq, Nat.reduceAdd, Nat.reduceSub, List.nil_append, List.append_nil, List.append_assoc, List.cons_append, Nat.reduceAdd, Nat.zero_add, Nat.add_one_ne_zero, Nat.add_one_sub_one]
    refine sp_lone (by decide) ?_
    refine sp_key [109, 97, 116, 99, 104] (by decide) (cut_cons rfl) ?_
    refine sp_blank ?_
    refine iha _ _ (cut_cons rfl) ?_
    refine sp_blank ?_
    refine sp_key [119, 105, 116, 104] (by decide) (cut_cons rfl) ?_
    refine sp_blank ?_
    refine sp_key [115, 111, 109, 101] (by decide) (cut_cons rfl) ?_
    refine sp_blank ?_
    refine sp_name ht (cut_cons rfl) ?_
    refine sp_blank ?_
    refine sp_two (by decide) ?_
    refine sp_blank ?_
    refine ihc _ _ (cut_cons rfl) ?_
    refine sp_lone (by decide) ?_
    exact hs
  | both t p ht a b c ha hb hc iha ihb ihc =>
    intro r us hr hs
    simp only [shwX, tkX, shwXL, tkXL, pcs, pick3, tkW, weave, wv, List.length_cons, List.length_nil, List.getD_cons_zero, List.getD_cons_succ, List.getElem?_cons_zero, List.getElem?_cons_succ, List.filterMap_cons, List.filterMap_nil, id, reduceIte, Int.reduceEq, Nat.reduceAdd, Nat.reduceSub, List.nil_append, List.append_nil, List.append_assoc, List.cons_append, Nat.reduceAdd, Nat.zero_add, Nat.add_one_ne_zero, Nat.add_one_sub_one]
    refine sp_lone (by decide) ?_
    refine sp_key [109, 97, 116, 99, 104] (by decide) (cut_cons rfl) ?_
    refine sp_blank ?_
    refine iha _ _ (cut_cons rfl) ?_
    refine sp_blank ?_
    refine sp_key [119, 105, 116, 104] (by decide) (cut_cons rfl) ?_
    refine sp_blank ?_
    refine sp_key [110, 111, 110, 101] (by decide) (cut_cons rfl) ?_
    refine sp_blank ?_
    refine sp_two (by decide) ?_
    refine sp_blank ?_
    refine ihb _ _ (cut_cons rfl) ?_
    refine sp_blank ?_
    refine sp_lone (by decide) ?_
    refine sp_blank ?_
    refine sp_key [115, 111, 109, 101] (by decide) (cut_cons rfl) ?_
    refine sp_blank ?_
    refine sp_name ht (cut_cons rfl) ?_
    refine sp_blank ?_
    refine sp_two (by decide) ?_
    refine sp_blank ?_
    refine ihc _ _ (cut_cons rfl) ?_
    refine sp_lone (by decide) ?_
    exact hs
end Go.Proofs.YtkljakeccfnakaaGreatDoor
