/-
  The words of a shown expression are read as that expression; no program is named here.
-/
import Derived.Test.YtkljakeccfnakaaGreatDoorVB
namespace Go.Proofs.YtkljakeccfnakaaGreatDoor

mutual
/-- An expression as it is read of words without places. -/
def toE : Px → Ex
  | .mk k t o n _ l => .mk k.toNat t o n 0 (toEL l)
def toEL : List Px → List Ex
  | [] => []
  | e :: r => toE e :: toEL r
end
/-- What no shown expression begins with. -/
def noU : List (List UInt8) := [[41], [93], [108, 101, 116], [105, 102], [102, 117, 110], [109, 97, 116, 99, 104], [46, 91], [58, 61], [60, 45], [59], [44], [60], [61], [42], [47], [43], [45], [124]]
theorem noU_name : ∀ s ∈ noU, isNameB s = false := by decide
theorem noU_digit : ∀ s ∈ noU, s.all digit = false := by decide
theorem name_ne {t s : List UInt8} (h : isNameB t = true) (hs : isNameB s = false) : (t == s) = false := by
  rw [beq_eq_false_iff_ne]; rintro rfl; rw [h] at hs; cases hs
theorem dec_ne {n : Nat} {s : List UInt8} (hs : s.all digit = false) : (Lib.decDigits n == s) = false := by
  rw [beq_eq_false_iff_ne]; rintro rfl; rw [(dec_parts n).1] at hs; cases hs
/-- What a shown expression begins with. -/
structure HeadU (ts : List Tok) : Prop where
  h : ∃ q l, ts = q :: l ∧ q.pos = 0 ∧ begins q = true ∧ (∀ s ∈ noU, isT s q = false) ∧ (isK 1 q = true → ∀ r, hd (isT [58, 61]) r = false → hd (isT [58, 61]) (l ++ r) = false)
theorem HeadU.word {z : List UInt8} {l : List Tok} (h : (firstL.contains z && noU.all (fun s => !(z == s))) = true) (k : Nat) (hk : k ≠ 1) : HeadU (⟨k, z, 0, 0⟩ :: l) := by
  simp only [Bool.and_eq_true, List.all_eq_true, Bool.not_eq_true'] at h
  refine ⟨⟨_, _, rfl, rfl, ?_, fun s hs => h.2 s hs, fun h1 => ?_⟩⟩
  · unfold begins; simp only [h.1, Bool.true_or]
  · unfold isK at h1; simp only [beq_iff_eq] at h1; exact absurd h1 hk
theorem shape_head {x : Px} (h : Shape x) : HeadU (tkX x) := by
  cases h with
  | num n p h0 h1 => exact ⟨⟨_, _, rfl, rfl, by simp [begins, tV], fun s hs => dec_ne (noU_digit s hs), fun h => by simp [isK, tV] at h⟩⟩
  | name t p ht => exact ⟨⟨_, _, rfl, rfl, by simp [begins, tN], fun s hs => name_ne ht (noU_name s hs), fun _ r hr => hr⟩⟩
  | ats t p ht a ha => exact ⟨⟨_, _, rfl, rfl, by simp [begins, tN], fun s hs => name_ne ht (noU_name s hs), fun _ r hr => rfl⟩⟩
  | _ => exact HeadU.word (by decide) _ (by decide)
theorem HeadU.is {ts : List Tok} (h : HeadU ts) (s : List UInt8) (hs : s ∈ noU) (r : List Tok) : hd (isT s) (ts ++ r) = false := by
  obtain ⟨q, l, rfl, _, _, h3, _⟩ := h.h; exact h3 s hs
theorem HeadU.beg {ts : List Tok} (h : HeadU ts) (r : List Tok) : hd begins (ts ++ r) = true := by
  obtain ⟨q, l, rfl, _, h2, _, _⟩ := h.h; exact h2
theorem HeadU.pl {ts : List Tok} (h : HeadU ts) (en : Nat) (r : List Tok) : place en (ts ++ r) = 0 := by
  obtain ⟨q, l, rfl, h1, _, _, _⟩ := h.h; exact h1
theorem HeadU.second {ts r : List Tok} (h : HeadU ts) (hr : hd (isT [58, 61]) r = false) (hk : hd (isK 1) (ts ++ r) = true) : hd (isT [58, 61]) (ts ++ r).tail = false := by
  obtain ⟨q, l, rfl, _, _, _, h4⟩ := h.h; exact h4 hk r hr

/-- What a part ends at. -/
def stopT (t : Tok) : Bool := (t.kind == 2 || t.kind == 4) && [[41], [93], [105, 110], [116, 104, 101, 110], [101, 108, 115, 101], [119, 105, 116, 104], [124], [44], [59], [101, 110, 100]].contains t.text
theorem stop_cases {t : Tok} (h : stopT t = true) : (t.kind = 2 ∨ t.kind = 4) ∧ t.text ∈ [[41], [93], [105, 110], [116, 104, 101, 110], [101, 108, 115, 101], [119, 105, 116, 104], [124], [44], [59], [101, 110, 100]] := by
  unfold stopT at h
  simp only [Bool.and_eq_true, Bool.or_eq_true, beq_iff_eq, List.contains_iff_mem] at h
  exact h
theorem stopT_is {t : Tok} (h : stopT t = true) (s : List UInt8) (hs : [[41], [93], [105, 110], [116, 104, 101, 110], [101, 108, 115, 101], [119, 105, 116, 104], [124], [44], [59], [101, 110, 100]].contains s = false) : isT s t = false := by
  unfold isT
  rw [beq_eq_false_iff_ne]
  rintro rfl
  rw [List.contains_iff_mem.2 (stop_cases h).2] at hs
  cases hs
theorem stopT_begins {t : Tok} (h : stopT t = true) : begins t = false := by
  obtain ⟨hk, ht⟩ := stop_cases h
  have h1 : firstL.contains t.text = false := by
    have : ∀ s ∈ [[41], [93], [105, 110], [116, 104, 101, 110], [101, 108, 115, 101], [119, 105, 116, 104], [124], [44], [59], [101, 110, 100]], firstL.contains s = false := by decide
    exact this _ ht
  unfold begins
  rw [h1]
  rcases hk with hk | hk <;> rw [hk] <;> rfl
/-- No sum goes on here. -/
structure QuietT (t : Tok) : Prop where
  b : begins t = false
  mul : (isT [42] t || isT [47] t) = false
  add : (isT [43] t || isT [45] t) = false
theorem stopT_quiet {t : Tok} (h : stopT t = true) : QuietT t := ⟨stopT_begins h, by rw [stopT_is h [42] (by decide), stopT_is h [47] (by decide)]; rfl, by rw [stopT_is h [43] (by decide), stopT_is h [45] (by decide)]; rfl⟩
theorem ev_app0 {en p : Nat} {x : Ex} {t : Tok} {r : List Tok} (h : begins t = false) : Ev en (.appL p x) (t :: r) (.ok x (t :: r)) := .of (.nay h (.ret _ _))
theorem ev_prod0 {en p : Nat} {x : Ex} {t : Tok} {r : List Tok} (h : (isT [42] t || isT [47] t) = false) : Ev en (.prodL p x) (t :: r) (.ok x (t :: r)) := .of (.nay h (.ret _ _))
theorem ev_sum0 {en p : Nat} {x : Ex} {t : Tok} {r : List Tok} (h : (isT [43] t || isT [45] t) = false) : Ev en (.sumL p x) (t :: r) (.ok x (t :: r)) := .of (.nay h (.ret _ _))
theorem ev_sumK {en p : Nat} {x : Ex} {t : Tok} {r : List Tok} (h : QuietT t) {o : Out} {k : Ex → Cmd} (hk : EvC en (k x) (t :: r) o) : EvC en (sumK p x k) (t :: r) o :=
  .call (ev_app0 h.b) (.call (ev_prod0 h.mul) (.call (ev_sum0 h.add) hk))
theorem ev_prodK {en p : Nat} {x : Ex} {t : Tok} {r : List Tok} (h : begins t = false) (h2 : (isT [42] t || isT [47] t) = false) {o : Out} {k : Ex → Cmd} (hk : EvC en (k x) (t :: r) o) : EvC en (prodK p x k) (t :: r) o :=
  .call (ev_app0 h) (.call (ev_prod0 h2) hk)
theorem ev_test {en p : Nat} {x : Ex} {t : Tok} {r : List Tok} (h : stopT t = true) : EvC en (testC p x) (t :: r) (.ok x (t :: r)) :=
  ev_sumK (stopT_quiet h) (.nay (stopT_is h [60] (by decide)) (.nay (stopT_is h [61] (by decide)) (.ret _ _)))
theorem ev_unitK0 {en : Nat} {k : Nat → Ex → Cmd} {ts r : List Tok} {x : Ex} {o : Out} (hp : place en ts = 0) (h : Ev en .unit ts (.ok x r)) (h2 : EvC en (k 0 x) r o) : EvC en (unitK k) ts o := .here (by rw [hp]; exact .call h h2)
theorem EvC.see2n {en : Nat} {p : Tok → Bool} {a b : Cmd} {ts : List Tok} {o : Out} (hp : hd p ts.tail = false) (h : EvC en b ts o) : EvC en (.see2 p a b) ts o := ⟨h.1, h.2.elim fun f e => ⟨f, by simp only [runC, hp, Bool.false_eq_true, if_false]; exact e⟩⟩
theorem EvC.see2y {en : Nat} {p : Tok → Bool} {a b : Cmd} {ts : List Tok} {o : Out} (hp : hd p ts.tail = true) (h : EvC en a ts o) : EvC en (.see2 p a b) ts o := ⟨h.1, h.2.elim fun f e => ⟨f, by simp only [runC, hp, if_true]; exact e⟩⟩
/-- An expression that begins with a unit. -/
theorem ev_exprU {en : Nat} {ts r : List Tok} {x : Ex} {o : Out} (h1 : hd (isT [108, 101, 116]) ts = false) (h2 : hd (isT [105, 102]) ts = false) (h3 : hd (isT [102, 117, 110]) ts = false) (h4 : hd (isT [109, 97, 116, 99, 104]) ts = false) (h5 : hd (isK 1) ts = true → hd (isT [58, 61]) ts.tail = false) (hp : place en ts = 0)
    (hu : Ev en .unit ts (.ok x r)) (h6 : hd (isT [60, 45]) r = false) (h7 : EvC en (testC 0 x) r o) : Ev en .expr ts o := by
  refine .of (.nay h1 (.nay h2 (.nay h3 (.nay h4 ?_))))
  cases h : hd (isK 1) ts
  · exact .nay h (ev_unitK0 hp hu h7)
  · refine .yes h (.see2n (h5 h) (ev_unitK0 hp hu ?_))
    split
    · exact .nay h6 h7
    · exact h7
theorem ev_exprX {en : Nat} {ts r : List Tok} {x : Ex} {o : Out} (H : HeadU ts) (hr : hd (isT [58, 61]) r = false) (hu : Ev en .unit (ts ++ r) (.ok x r)) (h6 : hd (isT [60, 45]) r = false) (h7 : EvC en (testC 0 x) r o) : Ev en .expr (ts ++ r) o :=
  ev_exprU (H.is _ (by decide) _) (H.is _ (by decide) _) (H.is _ (by decide) _) (H.is _ (by decide) _) (H.second hr) (H.pl _ _) hu h6 h7
/-- A part that is a unit, ahead of what it ends at. -/
theorem ev_stop {en : Nat} {ts : List Tok} {t : Tok} {r : List Tok} {x : Ex} (H : HeadU ts) (ht : stopT t = true) (hu : Ev en .unit (ts ++ t :: r) (.ok x (t :: r))) : Ev en .expr (ts ++ t :: r) (.ok x (t :: r)) :=
  ev_exprX H (stopT_is ht _ (by decide)) hu (stopT_is ht _ (by decide)) (ev_test ht)
theorem ev_seq1 {en : Nat} {ts r : List Tok} {x : Ex} (h : Ev en .expr ts (.ok x r)) (hr : hd (isT [59]) r = false) : Ev en .seq ts (.ok x r) := .of (.here (.call h (.nay hr (.ret _ _))))
theorem ev_paren {en : Nat} {ts r : List Tok} {x : Ex} (h : Ev en .seq ts (.ok x (tS [41] :: r))) (h0 : hd (isT [41]) ts = false) : Ev en .unit (tS [40] :: ts) (.ok x r) :=
  .of (.yes rfl (.take (show EvC en (insideC 0) ts _ from .nay h0 (.call h (.nay rfl (.yes rfl (.take (.ret _ _))))))))
/-- What is known of a shown expression. -/
structure ReadU (x : Px) : Prop where
  head : HeadU (tkX x)
  unit : ∀ en r, hd (isT [46, 91]) r = false → Ev en .unit (tkX x ++ r) (.ok (toE x) r)
theorem ReadU.expr {x : Px} (h : ReadU x) {en : Nat} {t : Tok} {r : List Tok} (ht : stopT t = true) : Ev en .expr (tkX x ++ t :: r) (.ok (toE x) (t :: r)) :=
  ev_stop h.head ht (h.unit en _ (stopT_is ht _ (by decide)))
theorem ReadU.seq {x : Px} (h : ReadU x) {en : Nat} {t : Tok} {r : List Tok} (ht : stopT t = true) (h2 : isT [59] t = false) : Ev en .seq (tkX x ++ t :: r) (.ok (toE x) (t :: r)) := ev_seq1 (h.expr ht) h2
theorem ReadU.u {x : Px} (h : ReadU x) {en : Nat} {t : Tok} {r : List Tok} (ht : isT [46, 91] t = false) : Ev en .unit (tkX x ++ t :: r) (.ok (toE x) (t :: r)) := h.unit en _ ht
/-- What stands in parentheses, and begins with a word that no unit begins with. -/
theorem ev_inner {en : Nat} {t : Tok} {ts r : List Tok} {x : Ex} (h0 : isT [41] t = false) (h : Ev en .expr (t :: ts) (.ok x (tS [41] :: r))) : Ev en .unit (tS [40] :: t :: ts) (.ok x r) := ev_paren (ev_seq1 h rfl) h0
theorem ev_word {en : Nat} {z : List UInt8} {ts r : List Tok} {x : Ex} (h : (firstL.contains z && noU.all (fun s => !(z == s))) = true) (hu : Ev en .unit (tW z :: ts) (.ok x (tS [41] :: r))) : Ev en .unit (tS [40] :: tW z :: ts) (.ok x r) := by
  have H : HeadU [tW z] := HeadU.word h 2 (by decide)
  refine ev_inner (H.is [41] (by decide) []) ?_
  exact ev_exprU (H.is _ (by decide) ts) (H.is _ (by decide) ts) (H.is _ (by decide) ts) (H.is _ (by decide) ts) (fun h => by simp [hd, isK, tW] at h) rfl hu rfl (ev_test rfl)
theorem unitT_name {t : List UInt8} (h : isNameB t = true) : unitT (tN t) = namedC (tN t) := by
  have hn : ∀ s, isNameB s = false → ¬ (tN t).text = s := fun s hs e => by rw [show t = s from e, hs] at h; cases h
  unfold unitT
  rw [if_neg (hn _ (by decide)), if_neg (hn _ (by decide)), if_neg (hn _ (by decide)), if_neg (hn _ (by decide)), if_neg (hn _ (by decide)), if_neg (hn _ (by decide)), if_neg (hn _ (by decide)), if_neg (hn _ (by decide)), if_neg (hn _ (by decide)), if_neg (hn _ (by decide)), if_neg (show ¬ (tN t).kind = 3 by simp [tN])]
theorem unitT_num (n : Nat) : unitT (tV n) = .ret (.mk 1 [] [] n 0 []) := by
  have hn : ∀ s : List UInt8, s.all digit = false → ¬ (tV n).text = s := fun s hs e => by rw [← show Lib.decDigits n = s from e, (dec_parts n).1] at hs; cases hs
  unfold unitT
  rw [if_neg (hn _ (by decide)), if_neg (hn _ (by decide)), if_neg (hn _ (by decide)), if_neg (hn _ (by decide)), if_neg (hn _ (by decide)), if_neg (hn _ (by decide)), if_neg (hn _ (by decide)), if_neg (hn _ (by decide)), if_neg (hn _ (by decide)), if_neg (hn _ (by decide)), if_pos (show (tV n).kind = 3 from rfl)]
  rfl
theorem unitT_load : unitT (tS [33]) = nameC' fun n => .ret (.mk 10 n [] 0 0 []) := by rfl
theorem unitT_print : unitT (tW [112, 114, 105, 110, 116]) = .call .unit fun a => .ret (.mk 17 [] [] 0 0 [a]) := by rfl
theorem unitT_some : unitT (tW [115, 111, 109, 101]) = .call .unit fun a => .ret (.mk 19 [] [] 0 0 [a]) := by rfl
theorem unitT_swap : unitT (tW [115, 119, 97, 112]) = nameC' fun n => .call .unit fun a => .ret (.mk 14 n [] 0 0 [a]) := by rfl
theorem unitT_add : unitT (tW [97, 100, 100]) = nameC' fun n => .call .unit fun a => .ret (.mk 15 n [] 0 0 [a]) := by rfl
theorem unitT_cas : unitT (tW [99, 97, 115]) = nameC' fun n => .call .unit fun a => .call .unit fun b => .ret (.mk 16 n [] 0 0 [a, b]) := by rfl
theorem unitT_none : unitT (tW [110, 111, 110, 101]) = .ret (.mk 18 [] [] 0 0 []) := by rfl
theorem unitT_true : unitT (tW [116, 114, 117, 101]) = .ret (.mk 2 [] [] 1 0 []) := by rfl
theorem unitT_false : unitT (tW [102, 97, 108, 115, 101]) = .ret (.mk 2 [] [] 0 0 []) := by rfl
theorem unitT_paren : unitT (tS [40]) = insideC 0 := by rfl
theorem ev_at {a : Px} (A : ReadU a) {t : List UInt8} (ht : isNameB t = true) (en : Nat) (r : List Tok) : Ev en .unit (tN t :: tS [46, 91] :: (tkX a ++ tS [93] :: r)) (.ok (.mk 12 t [] 0 0 [toE a]) r) :=
  .of (.yes (by simp [hd, begins, tN]) (.take (by rw [unitT_name ht]; exact .yes rfl (.take (.call (A.expr rfl) (.yes rfl (.take (.ret _ _))))))))
/-- An expression that begins with a name. -/
theorem ev_named {t : List UInt8} (ht : isNameB t = true) {en : Nat} {ts : List Tok} {o : Out} (h : EvC en (.see2 (isT [58, 61]) storeT (unitK fun q u => if u.kind = 12 then mayC [60, 45] (.call .expr fun g => .ret (.mk 13 u.text [] 0 q [u.kid0, g])) (testC q u) else testC q u)) (tN t :: ts) o) : Ev en .expr (tN t :: ts) o :=
  .of (.nay (name_ne ht (by decide)) (.nay (name_ne ht (by decide)) (.nay (name_ne ht (by decide)) (.nay (name_ne ht (by decide)) (.yes rfl h)))))

set_option maxHeartbeats 4000000 in
theorem read_unit {x : Px} (h : Shape x) : ReadU x := by
  induction h with
  | num n p h0 h1 =>
    refine ⟨shape_head (.num n p h0 h1), fun en r hr => ?_⟩
    simp only [tkX, tkXL, tkW, reduceIte, Int.reduceEq, List.nil_append, List.cons_append]
    refine .of (.yes (by simp [hd, begins, tV]) (.take ?_))
    rw [unitT_num, Int.toNat_of_nonneg h0]
    exact .ret _ _
  | yes p =>
    refine ⟨shape_head (.yes p), fun en r hr => ?_⟩
    simp only [tkX, tkXL, tkW, reduceIte, Int.reduceEq, List.nil_append, List.cons_append]
    refine .of (.yes rfl (.take ?_))
    rw [unitT_true]
    exact .ret _ _
  | nope p =>
    refine ⟨shape_head (.nope p), fun en r hr => ?_⟩
    simp only [tkX, tkXL, tkW, reduceIte, Int.reduceEq, List.nil_append, List.cons_append]
    refine .of (.yes rfl (.take ?_))
    show EvC en (unitT (tW [102, 97, 108, 115, 101])) r _
    rw [unitT_false]
    exact .ret _ _
  | unit p =>
    refine ⟨shape_head (.unit p), fun en r hr => ?_⟩
    simp only [tkX, tkXL, tkW, reduceIte, Int.reduceEq, List.nil_append, List.cons_append]
    refine .of (.yes rfl (.take ?_))
    rw [unitT_paren]
    exact .yes rfl (.take (.ret _ _))
  | name t p ht =>
    refine ⟨shape_head (.name t p ht), fun en r hr => ?_⟩
    simp only [tkX, tkXL, tkW, reduceIte, Int.reduceEq, List.nil_append, List.cons_append]
    refine .of (.yes (by simp [hd, begins, tN]) (.take ?_))
    rw [unitT_name ht]
    exact .nay hr (.ret _ _)
  | load t p ht =>
    refine ⟨shape_head (.load t p ht), fun en r hr => ?_⟩
    simp only [tkX, tkXL, tkW, reduceIte, Int.reduceEq, List.nil_append, List.cons_append]
    refine .of (.yes rfl (.take ?_))
    rw [unitT_load]
    exact .yes rfl (.take (.ret _ _))
  | none p =>
    refine ⟨shape_head (.none p), fun en r hr => ?_⟩
    simp only [tkX, tkXL, tkW, reduceIte, Int.reduceEq, List.nil_append, List.cons_append]
    refine .of (.yes rfl (.take ?_))
    rw [unitT_none]
    exact .ret _ _
  | seqs p a b ha hb A B =>
    refine ⟨shape_head (.seqs p a b ha hb), fun en r hr => ?_⟩
    simp only [tkX, tkXL, tkW, List.getD_cons_zero, List.getD_cons_succ, reduceIte, Int.reduceEq, List.nil_append, List.append_assoc, List.cons_append]
    exact ev_paren (.of (.here (by rw [A.head.pl]; exact .call (A.expr rfl) (.yes rfl (.take (.call (B.seq rfl rfl) (.ret _ _))))))) (A.head.is _ (by decide) _)
  | app p a b ha hb A B =>
    refine ⟨shape_head (.app p a b ha hb), fun en r hr => ?_⟩
    simp only [tkX, tkXL, tkW, List.getD_cons_zero, List.getD_cons_succ, reduceIte, Int.reduceEq, List.nil_append, List.append_assoc, List.cons_append]
    exact ev_paren (ev_seq1 (ev_exprX A.head (B.head.is _ (by decide) _) (A.unit en _ (B.head.is _ (by decide) _)) (B.head.is _ (by decide) _) (.call (.of (.yes (B.head.beg _) (.call (B.u rfl) (.call (ev_app0 rfl) (.ret _ _))))) (.call (ev_prod0 rfl) (.call (ev_sum0 rfl) (.nay rfl (.nay rfl (.ret _ _))))))) rfl) (A.head.is _ (by decide) _)
  | tell p a ha A =>
    refine ⟨shape_head (.tell p a ha), fun en r hr => ?_⟩
    simp only [tkX, tkXL, tkW, List.getD_cons_zero, List.getD_cons_succ, reduceIte, Int.reduceEq, List.nil_append, List.append_assoc, List.cons_append]
    exact ev_word (by decide) (.of (.yes rfl (.take (by rw [unitT_print]; exact .call (A.u rfl) (.ret _ _)))))
  | some p a ha A =>
    refine ⟨shape_head (.some p a ha), fun en r hr => ?_⟩
    simp only [tkX, tkXL, tkW, List.getD_cons_zero, List.getD_cons_succ, reduceIte, Int.reduceEq, List.nil_append, List.append_assoc, List.cons_append]
    exact ev_word (by decide) (.of (.yes rfl (.take (by rw [unitT_some]; exact .call (A.u rfl) (.ret _ _)))))
  | pair p a b ha hb A B =>
    refine ⟨shape_head (.pair p a b ha hb), fun en r hr => ?_⟩
    simp only [tkX, tkXL, tkW, List.getD_cons_zero, List.getD_cons_succ, reduceIte, Int.reduceEq, List.nil_append, List.append_assoc, List.cons_append]
    refine .of (.yes rfl (.take ?_))
    rw [unitT_paren]
    exact .nay (A.head.is _ (by decide) _) (.call (A.seq rfl rfl) (.yes rfl (.take (.call (B.seq rfl rfl) (.yes rfl (.take (.ret _ _)))))))
  | less p a b ha hb A B =>
    refine ⟨shape_head (.less p a b ha hb), fun en r hr => ?_⟩
    simp only [tkX, tkXL, tkW, List.getD_cons_zero, List.getD_cons_succ, reduceIte, Int.reduceEq, List.nil_append, List.append_assoc, List.cons_append]
    exact ev_paren (ev_seq1 (ev_exprX A.head rfl (A.u rfl) rfl (ev_sumK ⟨rfl, rfl, rfl⟩ (.yes rfl (.take (ev_unitK0 (B.head.pl _ _) (B.u rfl) (ev_sumK ⟨rfl, rfl, rfl⟩ (.ret _ _))))))) rfl) (A.head.is _ (by decide) _)
  | same p a b ha hb A B =>
    refine ⟨shape_head (.same p a b ha hb), fun en r hr => ?_⟩
    simp only [tkX, tkXL, tkW, List.getD_cons_zero, List.getD_cons_succ, reduceIte, Int.reduceEq, List.nil_append, List.append_assoc, List.cons_append]
    exact ev_paren (ev_seq1 (ev_exprX A.head rfl (A.u rfl) rfl (ev_sumK ⟨rfl, rfl, rfl⟩ (.nay rfl (.yes rfl (.take (ev_unitK0 (B.head.pl _ _) (B.u rfl) (ev_sumK ⟨rfl, rfl, rfl⟩ (.ret _ _)))))))) rfl) (A.head.is _ (by decide) _)
  | cond p a b c ha hb hc A B C =>
    refine ⟨shape_head (.cond p a b c ha hb hc), fun en r hr => ?_⟩
    simp only [tkX, tkXL, tkW, List.getD_cons_zero, List.getD_cons_succ, reduceIte, Int.reduceEq, List.nil_append, List.append_assoc, List.cons_append]
    exact ev_inner rfl (.of (.nay rfl (.yes rfl (.yes rfl (.take (.call (A.expr rfl) (.yes rfl (.take (.call (B.expr rfl) (.yes rfl (.take (.call (C.expr rfl) (.ret _ _)))))))))))))
  | lets t p ht a b ha hb A B =>
    refine ⟨shape_head (.lets t p ht a b ha hb), fun en r hr => ?_⟩
    simp only [tkX, tkXL, tkW, List.getD_cons_zero, List.getD_cons_succ, reduceIte, Int.reduceEq, List.nil_append, List.append_assoc, List.cons_append]
    exact ev_inner rfl (.of (.yes rfl (.yes rfl (.take (.yes rfl (.take (.yes rfl (.take (.call (A.expr rfl) (.yes rfl (.take (.call (B.seq rfl rfl) (.ret _ _)))))))))))))
  | func t p ht a ha A =>
    refine ⟨shape_head (.func t p ht a ha), fun en r hr => ?_⟩
    simp only [tkX, tkXL, tkW, List.getD_cons_zero, List.getD_cons_succ, reduceIte, Int.reduceEq, List.nil_append, List.append_assoc, List.cons_append]
    exact ev_inner rfl (.of (.nay rfl (.nay rfl (.yes rfl (.yes rfl (.take (.yes rfl (.take (.yes rfl (.take (.call (A.expr rfl) (.ret _ _))))))))))))
  | store t p ht a ha A =>
    refine ⟨shape_head (.store t p ht a ha), fun en r hr => ?_⟩
    simp only [tkX, tkXL, tkW, List.getD_cons_zero, List.getD_cons_succ, reduceIte, Int.reduceEq, List.nil_append, List.append_assoc, List.cons_append]
    exact ev_inner (name_ne ht (by decide)) (ev_named ht (.see2y rfl (.here (.take (.yes rfl (.take (.call (A.expr rfl) (.ret _ _))))))))
  | ats t p ht a ha A =>
    refine ⟨shape_head (.ats t p ht a ha), fun en r hr => ?_⟩
    simp only [tkX, tkXL, tkW, List.getD_cons_zero, List.getD_cons_succ, reduceIte, Int.reduceEq, List.nil_append, List.append_assoc, List.cons_append]
    exact ev_at A ht en r
  | put t p ht a b ha hb A B =>
    refine ⟨shape_head (.put t p ht a b ha hb), fun en r hr => ?_⟩
    simp only [tkX, tkXL, tkW, List.getD_cons_zero, List.getD_cons_succ, reduceIte, Int.reduceEq, List.nil_append, List.append_assoc, List.cons_append]
    refine ev_inner (name_ne ht (by decide)) (ev_named ht (.see2n rfl (ev_unitK0 rfl (ev_at A ht en _) ?_)))
    rw [if_pos (show (Ex.mk 12 t [] 0 0 [toE a]).kind = 12 from rfl)]
    exact .yes rfl (.take (.call (B.expr rfl) (.ret _ _)))
  | swap t p ht a ha A =>
    refine ⟨shape_head (.swap t p ht a ha), fun en r hr => ?_⟩
    simp only [tkX, tkXL, tkW, List.getD_cons_zero, List.getD_cons_succ, reduceIte, Int.reduceEq, List.nil_append, List.append_assoc, List.cons_append]
    exact ev_word (by decide) (.of (.yes rfl (.take (by rw [unitT_swap]; exact .yes rfl (.take (.call (A.u rfl) (.ret _ _)))))))
  | inc t p ht a ha A =>
    refine ⟨shape_head (.inc t p ht a ha), fun en r hr => ?_⟩
    simp only [tkX, tkXL, tkW, List.getD_cons_zero, List.getD_cons_succ, reduceIte, Int.reduceEq, List.nil_append, List.append_assoc, List.cons_append]
    exact ev_word (by decide) (.of (.yes rfl (.take (by rw [unitT_add]; exact .yes rfl (.take (.call (A.u rfl) (.ret _ _)))))))
  | cas t p ht a b ha hb A B =>
    refine ⟨shape_head (.cas t p ht a b ha hb), fun en r hr => ?_⟩
    simp only [tkX, tkXL, tkW, List.getD_cons_zero, List.getD_cons_succ, reduceIte, Int.reduceEq, List.nil_append, List.append_assoc, List.cons_append]
    exact ev_word (by decide) (.of (.yes rfl (.take (by rw [unitT_cas]; exact .yes rfl (.take (.call (A.unit _ _ (B.head.is _ (by decide) _)) (.call (B.u rfl) (.ret _ _))))))))
  | op t p ht a b ha hb A B =>
    refine ⟨shape_head (.op t p ht a b ha hb), fun en r hr => ?_⟩
    simp only [tkX, tkXL, tkW, List.getD_cons_zero, List.getD_cons_succ, reduceIte, Int.reduceEq, List.nil_append, List.append_assoc, List.cons_append]
    rcases ht with rfl | rfl | rfl | rfl
    · exact ev_paren (ev_seq1 (ev_exprX A.head rfl (A.u rfl) rfl (.call (ev_app0 rfl) (.call (ev_prod0 rfl) (.call (.of (.yes rfl (.take (ev_unitK0 (B.head.pl _ _) (B.u rfl) (ev_prodK rfl rfl (.call (ev_sum0 rfl) (.ret _ _))))))) (.nay rfl (.nay rfl (.ret _ _))))))) rfl) (A.head.is _ (by decide) _)
    · exact ev_paren (ev_seq1 (ev_exprX A.head rfl (A.u rfl) rfl (.call (ev_app0 rfl) (.call (ev_prod0 rfl) (.call (.of (.yes rfl (.take (ev_unitK0 (B.head.pl _ _) (B.u rfl) (ev_prodK rfl rfl (.call (ev_sum0 rfl) (.ret _ _))))))) (.nay rfl (.nay rfl (.ret _ _))))))) rfl) (A.head.is _ (by decide) _)
    · exact ev_paren (ev_seq1 (ev_exprX A.head rfl (A.u rfl) rfl (.call (ev_app0 rfl) (.call (.of (.yes rfl (.take (ev_unitK0 (B.head.pl _ _) (B.u rfl) (.call (ev_app0 rfl) (.call (ev_prod0 rfl) (.ret _ _))))))) (.call (ev_sum0 rfl) (.nay rfl (.nay rfl (.ret _ _))))))) rfl) (A.head.is _ (by decide) _)
    · exact ev_paren (ev_seq1 (ev_exprX A.head rfl (A.u rfl) rfl (.call (ev_app0 rfl) (.call (.of (.yes rfl (.take (ev_unitK0 (B.head.pl _ _) (B.u rfl) (.call (ev_app0 rfl) (.call (ev_prod0 rfl) (.ret _ _))))))) (.call (ev_sum0 rfl) (.nay rfl (.nay rfl (.ret _ _))))))) rfl) (A.head.is _ (by decide) _)
  | pairs t o p ht ho a b ha hb A B =>
    refine ⟨shape_head (.pairs t o p ht ho a b ha hb), fun en r hr => ?_⟩
    simp only [tkX, tkXL, tkW, List.getD_cons_zero, List.getD_cons_succ, reduceIte, Int.reduceEq, List.nil_append, List.append_assoc, List.cons_append]
    exact ev_inner rfl (.of (.nay rfl (.nay rfl (.nay rfl (.yes rfl (.yes rfl (.take (.call (A.expr rfl) (.yes rfl (.take (.yes rfl (.take (.yes rfl (.take (.yes rfl (.take (.yes rfl (.take (.yes rfl (.take (.yes rfl (.take (.call (B.expr rfl) (.ret _ _))))))))))))))))))))))))
  | one p q a b ha hb A B =>
    refine ⟨shape_head (.one p q a b ha hb), fun en r hr => ?_⟩
    simp only [tkX, tkXL, tkW, List.getD_cons_zero, List.getD_cons_succ, reduceIte, Int.reduceEq, List.nil_append, List.append_assoc, List.cons_append]
    exact ev_inner rfl (.of (.nay rfl (.nay rfl (.nay rfl (.yes rfl (.yes rfl (.take (.call (A.expr rfl) (.yes rfl (.take (.nay rfl (.yes rfl (.take (.yes rfl (.take (.call (B.expr rfl) (.nay rfl (.ret _ _))))))))))))))))))
  | two t p q ht a c ha hc A C =>
    refine ⟨shape_head (.two t p q ht a c ha hc), fun en r hr => ?_⟩
    simp only [tkX, tkXL, tkW, List.getD_cons_zero, List.getD_cons_succ, reduceIte, Int.reduceEq, List.nil_append, List.append_assoc, List.cons_append]
    exact ev_inner rfl (.of (.nay rfl (.nay rfl (.nay rfl (.yes rfl (.yes rfl (.take (.call (A.expr rfl) (.yes rfl (.take (.nay rfl (.nay rfl (.yes rfl (.take (.yes rfl (.take (.yes rfl (.take (.call (C.expr rfl) (.nay rfl (.ret _ _)))))))))))))))))))))
  | both t p ht a b c ha hb hc A B C =>
    refine ⟨shape_head (.both t p ht a b c ha hb hc), fun en r hr => ?_⟩
    simp only [tkX, tkXL, tkW, List.getD_cons_zero, List.getD_cons_succ, reduceIte, Int.reduceEq, List.nil_append, List.append_assoc, List.cons_append]
    exact ev_inner rfl (.of (.nay rfl (.nay rfl (.nay rfl (.yes rfl (.yes rfl (.take (.call (A.expr rfl) (.yes rfl (.take (.nay rfl (.yes rfl (.take (.yes rfl (.take (.call (B.expr rfl) (.yes rfl (.take (.yes rfl (.take (.yes rfl (.take (.yes rfl (.take (.call (C.expr rfl) (.ret _ _))))))))))))))))))))))))))
end Go.Proofs.YtkljakeccfnakaaGreatDoor
