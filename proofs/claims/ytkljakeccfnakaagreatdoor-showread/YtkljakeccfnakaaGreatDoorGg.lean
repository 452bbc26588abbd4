/-
  Readers of words, in plain Lean: what a reader does, told as a tree of tests and takings; no program is named here.
  There is fuel enough for every reader; no program is named here.
  Words that are the same but for places are read as the same; what stands behind does not matter where nobody looks; no program is named here.
  The parts of a program, over words that are the same but for places; no program is named here.
  Whole programs: other blanks, a fault, parentheses around a body; no program is named here.
  Nothing is deeper than the words that it was read from; no program is named here.
  Texts that laws put together: cut behind a fault, with other blanks; where limits are told. No program is named here.
  A body in two pairs of parentheses, as a text. No program is named here.
  What the laws of layer 5 say, of texts. No program is named here.
  A place of a row has its one kid.
-/
import Derived.Test.YtkljakeccfnakaaGreatDoorMm
import Derived.Test.YtkljakeccfnakaaGreatDoorUu
namespace Go.Proofs.YtkljakeccfnakaaGreatDoor

inductive Ex where
  | mk (kind : Nat) (text other : List UInt8) (n : Int) (pl : Nat) (kids : List Ex)
def Ex.kind : Ex → Nat | .mk k _ _ _ _ _ => k
def Ex.text : Ex → List UInt8 | .mk _ t _ _ _ _ => t
def Ex.other : Ex → List UInt8 | .mk _ _ o _ _ _ => o
def Ex.n : Ex → Int | .mk _ _ _ n _ _ => n
def Ex.pl : Ex → Nat | .mk _ _ _ _ p _ => p
def Ex.kids : Ex → List Ex | .mk _ _ _ _ _ l => l
def Ex.none : Ex := .mk 0 [] [] 0 0 []
def Ex.kid0 (e : Ex) : Ex := e.kids.headD Ex.none
mutual
/-- The places struck. -/
def er : Ex → Ex
  | .mk k t o n _ l => .mk k t o n 0 (erL l)
def erL : List Ex → List Ex
  | [] => []
  | e :: r => er e :: erL r
end
mutual
def deepE : Ex → Nat
  | .mk _ _ _ _ _ l => deepL l + 1
def deepL : List Ex → Nat
  | [] => 0
  | e :: r => max (deepE e) (deepL r)
end
mutual
theorem deep_er : ∀ e : Ex, deepE (er e) = deepE e
  | .mk k t o n p l => by simp only [er, deepE, deep_erL l]
theorem deep_erL : ∀ l : List Ex, deepL (erL l) = deepL l
  | [] => rfl
  | e :: r => by simp only [erL, deepL, deep_er e, deep_erL r]
end
theorem deep_same {e e2 : Ex} (h : er e = er e2) : deepE e = deepE e2 := by rw [← deep_er e, h, deep_er]
theorem kind_er {e e2 : Ex} (h : er e = er e2) : e.kind = e2.kind := by
  cases e; cases e2; simp only [er, Ex.mk.injEq] at h; exact h.1
theorem text_er {e e2 : Ex} (h : er e = er e2) : e.text = e2.text := by
  cases e; cases e2; simp only [er, Ex.mk.injEq] at h; exact h.2.1
theorem n_er {e e2 : Ex} (h : er e = er e2) : e.n = e2.n := by
  cases e; cases e2; simp only [er, Ex.mk.injEq] at h; exact h.2.2.2.1
theorem kids_er {e e2 : Ex} (h : er e = er e2) : erL e.kids = erL e2.kids := by
  cases e; cases e2; simp only [er, Ex.mk.injEq] at h; exact h.2.2.2.2.2
theorem erL_len : ∀ {l m : List Ex}, erL l = erL m → l.length = m.length
  | [], [], _ => rfl
  | [], _ :: _, h => by simp only [erL] at h; cases h
  | _ :: _, [], h => by simp only [erL] at h; cases h
  | a :: r, b :: q, h => by simp only [erL, List.cons.injEq] at h; simp [erL_len h.2]
theorem erL_app : ∀ (l m : List Ex), erL (l ++ m) = erL l ++ erL m
  | [], m => rfl
  | a :: r, m => by simp only [List.cons_append, erL, erL_app r m]
theorem head_er : ∀ {l m : List Ex}, erL l = erL m → er (l.headD Ex.none) = er (m.headD Ex.none)
  | [], [], _ => rfl
  | [], _ :: _, h => by simp only [erL] at h; cases h
  | _ :: _, [], h => by simp only [erL] at h; cases h
  | a :: r, b :: q, h => by simp only [erL, List.cons.injEq] at h; exact h.1
theorem kid0_er {e e2 : Ex} (h : er e = er e2) : er e.kid0 = er e2.kid0 := head_er (kids_er h)
theorem er_mk {k : Nat} {t o : List UInt8} {n : Int} {p p' : Nat} {l l' : List Ex} (h : erL l = erL l') : er (.mk k t o n p l) = er (.mk k t o n p' l') := by simp only [er, h]
theorem erL1 {a a' : Ex} (h : er a = er a') : erL [a] = erL [a'] := by simp only [erL, h]
theorem erL2 {a a' b b' : Ex} (h : er a = er a') (h2 : er b = er b') : erL [a, b] = erL [a', b'] := by simp only [erL, h, h2]
theorem erL3 {a a' b b' c c' : Ex} (h : er a = er a') (h2 : er b = er b') (h3 : er c = er c') : erL [a, b, c] = erL [a', b', c'] := by simp only [erL, h, h2, h3]

inductive Sym where
  | seq | expr | unit
  | appL (pl : Nat) (a : Ex) | prodL (pl : Nat) (a : Ex) | sumL (pl : Nat) (a : Ex)
  | decls (locs : Nat) (ds : List Ex) | doms (ds es : List Ex)
inductive Cmd where
  | ret (x : Ex)
  | stop
  | lim (p : Nat)
  | see (p : Tok → Bool) (a b : Cmd)
  | see2 (p : Tok → Bool) (a b : Cmd)
  | here (k : Nat → Cmd)
  | take (k : Tok → Cmd)
  | call (s : Sym) (k : Ex → Cmd)
inductive Out where
  | ok (x : Ex) (r : List Tok)
  | no (r : List Tok)
  | lim (p : Nat)
  | out
def hd (p : Tok → Bool) : List Tok → Bool
  | [] => false
  | t :: _ => p t
def place (en : Nat) : List Tok → Nat
  | [] => en
  | t :: _ => t.pos
def runC (en : Nat) (R : Sym → List Tok → Out) : Cmd → List Tok → Out
  | .ret x, ts => .ok x ts
  | .stop, ts => .no ts
  | .lim p, _ => .lim p
  | .see p a b, ts => if hd p ts = true then runC en R a ts else runC en R b ts
  | .see2 p a b, ts => if hd p ts.tail = true then runC en R a ts else runC en R b ts
  | .here k, ts => runC en R (k (place en ts)) ts
  | .take _, [] => .no []
  | .take k, t :: r => runC en R (k t) r
  | .call s k, ts => match R s ts with
    | .ok x r => runC en R (k x) r
    | .no r => .no r
    | .lim p => .lim p
    | .out => .out

def isT (s : List UInt8) (t : Tok) : Bool := t.text == s
def isK (k : Nat) (t : Tok) : Bool := t.kind == k
/-- The words and signs that a unit may begin with. -/
def firstL : List (List UInt8) := [[33], [112, 114, 105, 110, 116], [115, 119, 97, 112], [97, 100, 100], [99, 97, 115], [115, 111, 109, 101], [110, 111, 110, 101], [116, 114, 117, 101], [102, 97, 108, 115, 101], [40]]
def begins (t : Tok) : Bool := firstL.contains t.text || t.kind == 1 || t.kind == 3

def mustC (s : List UInt8) (k : Tok → Cmd) : Cmd := .see (isT s) (.take k) .stop
def kindC (n : Nat) (k : Tok → Cmd) : Cmd := .see (isK n) (.take k) .stop
def nameC' (k : List UInt8 → Cmd) : Cmd := kindC 1 fun t => k t.text
def mayC (s : List UInt8) (a b : Cmd) : Cmd := .see (isT s) (.take fun _ => a) b

/-- A unit, and the place of what it is the left part of. -/
def unitK (k : Nat → Ex → Cmd) : Cmd := .here fun q => .call .unit fun u => k q u
def joinE (kind : Nat) (sign : List UInt8) (p : Nat) (a b : Ex) : Ex := .mk kind sign [] 0 p [a, b]
def prodK (p : Nat) (x : Ex) (k : Ex → Cmd) : Cmd := .call (.appL p x) fun a => .call (.prodL p a) k
def sumK (p : Nat) (x : Ex) (k : Ex → Cmd) : Cmd := prodK p x fun a => .call (.sumL p a) k
def testC (p : Nat) (x : Ex) : Cmd :=
  sumK p x fun l =>
    mayC [60] (unitK fun q u => sumK q u fun r => .ret (joinE 22 [] p l r))
    (mayC [61] (unitK fun q u => sumK q u fun r => .ret (joinE 23 [] p l r)) (.ret l))
def letC : Cmd := mustC [108, 101, 116] fun t => nameC' fun n => mustC [61] fun _ => .call .expr fun a => mustC [105, 110] fun _ => .call .seq fun b => .ret (.mk 5 n [] 0 t.pos [a, b])
def choiceC : Cmd := mustC [105, 102] fun t => .call .expr fun a => mustC [116, 104, 101, 110] fun _ => .call .expr fun b => mustC [101, 108, 115, 101] fun _ => .call .expr fun c => .ret (.mk 6 [] [] 0 t.pos [a, b, c])
def funC : Cmd := mustC [102, 117, 110] fun t => nameC' fun n => mustC [45, 62] fun _ => .call .expr fun a => .ret (.mk 7 n [] 0 t.pos [a])
def storeC : Cmd := .here fun p => nameC' fun n => mustC [58, 61] fun _ => .call .expr fun a => .ret (.mk 11 n [] 0 p [a])
/-- The same where a name is known to stand. -/
def storeT : Cmd := .here fun p => .take fun t => mustC [58, 61] fun _ => .call .expr fun a => .ret (.mk 11 t.text [] 0 p [a])
def pairsC (p : Nat) (x : Ex) : Cmd := nameC' fun a => mustC [44] fun _ => nameC' fun b => mustC [41] fun _ => mustC [45, 62] fun _ => .call .expr fun e => .ret (.mk 25 a b 0 p [x, e])
def noneArm (k : Ex → Cmd) : Cmd := mustC [45, 62] fun _ => .call .expr k
def someArm (k : List UInt8 → Ex → Cmd) : Cmd := nameC' fun n => mustC [45, 62] fun _ => .call .expr fun e => k n e
def unitE (p : Nat) : Ex := .mk 3 [] [] 0 p []
def optionsC (p : Nat) (x : Ex) : Cmd :=
  mayC [110, 111, 110, 101] (noneArm fun a => mayC [124] (mayC [115, 111, 109, 101] (someArm fun n b => .ret (.mk 24 n [] 3 p [x, a, b])) .stop) (.ret (.mk 24 [] [] 1 p [x, a, unitE p])))
  (mayC [115, 111, 109, 101] (someArm fun n b => mayC [124] (mayC [110, 111, 110, 101] (noneArm fun a => .ret (.mk 24 n [] 3 p [x, a, b])) .stop) (.ret (.mk 24 n [] 2 p [x, unitE p, b]))) .stop)
def matchC : Cmd := mustC [109, 97, 116, 99, 104] fun t => .call .expr fun x => mustC [119, 105, 116, 104] fun _ => mayC [40] (pairsC t.pos x) (optionsC t.pos x)
def exprC : Cmd :=
  .see (isT [108, 101, 116]) letC (.see (isT [105, 102]) choiceC (.see (isT [102, 117, 110]) funC (.see (isT [109, 97, 116, 99, 104]) matchC
  (.see (isK 1) (.see2 (isT [58, 61]) storeT (unitK fun q u => if u.kind = 12 then mayC [60, 45] (.call .expr fun g => .ret (.mk 13 u.text [] 0 q [u.kid0, g])) (testC q u) else testC q u))
    (unitK fun q u => testC q u)))))
def insideC (p : Nat) : Cmd := mayC [41] (.ret (.mk 3 [] [] 0 p [])) (.call .seq fun a => mayC [44] (.call .seq fun b => mustC [41] fun _ => .ret (.mk 20 [] [] 0 p [a, b])) (mustC [41] fun _ => .ret a))
def namedC (t : Tok) : Cmd := mayC [46, 91] (.call .expr fun a => mustC [93] fun _ => .ret (.mk 12 t.text [] 0 t.pos [a])) (.ret (.mk 4 t.text [] 0 t.pos []))
def unitT (t : Tok) : Cmd :=
  if t.text = [33] then nameC' fun n => .ret (.mk 10 n [] 0 t.pos [])
  else if t.text = [112, 114, 105, 110, 116] then .call .unit fun a => .ret (.mk 17 [] [] 0 t.pos [a])
  else if t.text = [115, 111, 109, 101] then .call .unit fun a => .ret (.mk 19 [] [] 0 t.pos [a])
  else if t.text = [115, 119, 97, 112] then nameC' fun n => .call .unit fun a => .ret (.mk 14 n [] 0 t.pos [a])
  else if t.text = [97, 100, 100] then nameC' fun n => .call .unit fun a => .ret (.mk 15 n [] 0 t.pos [a])
  else if t.text = [99, 97, 115] then nameC' fun n => .call .unit fun a => .call .unit fun b => .ret (.mk 16 n [] 0 t.pos [a, b])
  else if t.text = [110, 111, 110, 101] then .ret (.mk 18 [] [] 0 t.pos [])
  else if t.text = [116, 114, 117, 101] then .ret (.mk 2 [] [] 1 t.pos [])
  else if t.text = [102, 97, 108, 115, 101] then .ret (.mk 2 [] [] 0 t.pos [])
  else if t.text = [40] then insideC t.pos
  else if t.kind = 3 then .ret (.mk 1 [] [] t.val t.pos [])
  else namedC t
def seqC : Cmd := .here fun p => .call .expr fun e => mayC [59] (.call .seq fun g => .ret (.mk 9 [] [] 0 p [e, g])) (.ret e)
/-- A declaration as an expression: its kind, name, number and place. -/
def firstC (k : Int → Cmd) : Cmd := mustC [61] fun _ => mayC [45] (kindC 3 fun t => k (-(t.val : Int))) (kindC 3 fun t => k (t.val : Int))
def declC (k : Ex → Cmd) : Cmd := .take fun t => nameC' fun n =>
  if t.text = [99, 101, 108, 108] then firstC fun v => k (.mk 1 n [] v t.pos [])
  else if t.text = [97, 116, 111, 109] then firstC fun v => k (.mk 2 n [] v t.pos [])
  else kindC 3 fun u => if u.val < 1 ∨ 8 < u.val then .lim u.pos else k (.mk 3 n [] u.val t.pos [])
def sizeE (d : Ex) : Nat := if d.kind = 3 then d.n.toNat else 1
def isDecl (t : Tok) : Bool := isT [99, 101, 108, 108] t || isT [97, 116, 111, 109] t || isT [114, 111, 119] t
def progE (ds es : List Ex) : Ex := .mk 100 [] [] ds.length 0 (ds ++ es)
def domC (k : Ex → Cmd) : Cmd := mustC [100, 111, 109, 97, 105, 110] fun t => .call .seq fun e => mustC [101, 110, 100] fun _ => if 60 < deepE e then .lim t.pos else k e
def domsC (ds es : List Ex) : Cmd :=
  let go : Cmd := domC fun e => .call (.doms ds (es ++ [e])) .ret
  let go2 : Cmd := if es.length = 3 then .see (isT [100, 111, 109, 97, 105, 110]) (.here .lim) go else go
  if es.length = 0 then go2 else .see (fun _ => true) go2 (.ret (progE ds es))
def declsC (locs : Nat) (ds : List Ex) : Cmd :=
  .see isDecl (if ds.length = 8 then .here .lim else declC fun d => if 16 < locs + sizeE d then .lim d.pl else .call (.decls (locs + sizeE d) (ds ++ [d])) .ret) (.call (.doms ds []) .ret)
def body : Sym → Cmd
  | .seq => seqC
  | .expr => exprC
  | .unit => .see begins (.take unitT) .stop
  | .appL p a => .see begins (.call .unit fun u => .call (.appL p (joinE 8 [] p a u)) .ret) (.ret a)
  | .prodL p a => .see (fun t => isT [42] t || isT [47] t) (.take fun t => unitK fun q u => .call (.appL q u) fun b => .call (.prodL p (joinE 21 t.text p a b)) .ret) (.ret a)
  | .sumL p a => .see (fun t => isT [43] t || isT [45] t) (.take fun t => unitK fun q u => prodK q u fun b => .call (.sumL p (joinE 21 t.text p a b)) .ret) (.ret a)
  | .decls locs ds => declsC locs ds
  | .doms ds es => domsC ds es
def P (en : Nat) : Nat → Sym → List Tok → Out
  | 0, _, _ => .out
  | f + 1, s, ts => runC en (P en f) (body s) ts

/-! Fuel does not matter. -/
theorem run_mono {en : Nat} {R R' : Sym → List Tok → Out} (h : ∀ s ts, R s ts ≠ .out → R' s ts = R s ts) : ∀ (c : Cmd) (ts : List Tok), runC en R c ts ≠ .out → runC en R' c ts = runC en R c ts
  | .ret _, _, _ => rfl
  | .stop, _, _ => rfl
  | .lim _, _, _ => rfl
  | .see p a b, ts, hn => by
    simp only [runC] at hn ⊢
    split
    · rename_i c; rw [if_pos c] at hn; exact run_mono h a ts hn
    · rename_i c; rw [if_neg c] at hn; exact run_mono h b ts hn
  | .see2 p a b, ts, hn => by
    simp only [runC] at hn ⊢
    split
    · rename_i c; rw [if_pos c] at hn; exact run_mono h a ts hn
    · rename_i c; rw [if_neg c] at hn; exact run_mono h b ts hn
  | .here k, ts, hn => by simp only [runC] at hn ⊢; exact run_mono h (k _) ts hn
  | .take k, [], _ => rfl
  | .take k, t :: r, hn => by simp only [runC] at hn ⊢; exact run_mono h (k t) r hn
  | .call s k, ts, hn => by
    simp only [runC] at hn ⊢
    cases e : R s ts with
    | ok x r => rw [e] at hn; rw [h s ts (by rw [e]; intro q; cases q), e]; exact run_mono h (k x) r hn
    | no r => rw [h s ts (by rw [e]; intro q; cases q), e]
    | lim p => rw [h s ts (by rw [e]; intro q; cases q), e]
    | out => rw [e] at hn; exact absurd rfl hn
theorem P_step (en : Nat) : ∀ (f : Nat) (s : Sym) (ts : List Tok), P en f s ts ≠ .out → P en (f + 1) s ts = P en f s ts
  | 0, _, _, h => absurd rfl h
  | f + 1, s, ts, h => run_mono (P_step en f) (body s) ts h
theorem P_mono (en : Nat) {f g : Nat} (hg : f ≤ g) (s : Sym) (ts : List Tok) (h : P en f s ts ≠ .out) : P en g s ts = P en f s ts := by
  induction hg with
  | refl => rfl
  | step _ ih => rw [P_step en _ s ts (by rw [ih]; exact h), ih]
theorem runP_mono (en : Nat) {f g : Nat} (hg : f ≤ g) (c : Cmd) (ts : List Tok) (h : runC en (P en f) c ts ≠ .out) : runC en (P en g) c ts = runC en (P en f) c ts :=
  run_mono (fun s ts h => P_mono en hg s ts h) c ts h

/-! What is left is a part of what was there. -/
def Out.Left (o : Out) (n : Nat) : Prop := match o with | .ok _ r => r.length ≤ n | .no r => r.length ≤ n | _ => True
theorem Out.Left.mono {o : Out} {n m : Nat} (h : o.Left n) (hm : n ≤ m) : o.Left m := by
  cases o <;> simp only [Out.Left] at * <;> omega
theorem run_left {en : Nat} {R : Sym → List Tok → Out} (h : ∀ s ts, (R s ts).Left ts.length) : ∀ (c : Cmd) (ts : List Tok), (runC en R c ts).Left ts.length
  | .ret _, _ => Nat.le_refl _
  | .stop, _ => Nat.le_refl _
  | .lim _, _ => trivial
  | .see p a b, ts => by
    simp only [runC]
    split
    · exact run_left h a ts
    · exact run_left h b ts
  | .see2 p a b, ts => by
    simp only [runC]
    split
    · exact run_left h a ts
    · exact run_left h b ts
  | .here k, ts => run_left h (k _) ts
  | .take k, [] => Nat.le_refl _
  | .take k, t :: r => (run_left h (k t) r).mono (Nat.le_succ _)
  | .call s k, ts => by
    have := h s ts
    simp only [runC]
    cases e : R s ts with
    | ok x r => rw [e] at this; exact (run_left h (k x) r).mono this
    | no r => rw [e] at this; exact this
    | lim p => trivial
    | out => trivial
theorem P_left (en : Nat) : ∀ (f : Nat) (s : Sym) (ts : List Tok), (P en f s ts).Left ts.length
  | 0, _, _ => trivial
  | f + 1, s, ts => run_left (P_left en f) (body s) ts

/-! There is fuel enough. -/
def eats : Sym → Bool
  | .unit => true
  | .expr => true
  | .seq => true
  | _ => false
def rank : Sym → Nat
  | .unit => 1
  | .appL _ _ => 2
  | .prodL _ _ => 3
  | .sumL _ _ => 4
  | .expr => 5
  | .seq => 6
  | .doms _ _ => 7
  | .decls _ _ => 8
/-- Whoever comes to an answer has taken something. -/
inductive Eat : Cmd → Prop
  | stop : Eat .stop
  | lim (p : Nat) : Eat (.lim p)
  | see {p : Tok → Bool} {a b : Cmd} : Eat a → Eat b → Eat (.see p a b)
  | see2 {p : Tok → Bool} {a b : Cmd} : Eat a → Eat b → Eat (.see2 p a b)
  | here {k : Nat → Cmd} : (∀ p, Eat (k p)) → Eat (.here k)
  | take (k : Tok → Cmd) : Eat (.take k)
  | call {s : Sym} {k : Ex → Cmd} : eats s = true → Eat (.call s k)
theorem run_eat {en : Nat} {R : Sym → List Tok → Out} (hl : ∀ s ts, (R s ts).Left ts.length) (h : ∀ s ts x r, eats s = true → R s ts = .ok x r → r.length < ts.length) {c : Cmd} (hc : Eat c) : ∀ {ts r : List Tok} {x : Ex}, runC en R c ts = .ok x r → r.length < ts.length := by
  induction hc with
  | stop => intro ts r x e; cases e
  | lim p => intro ts r x e; cases e
  | see _ _ ha hb =>
    intro ts r x e
    simp only [runC] at e
    split at e
    · exact ha e
    · exact hb e
  | see2 _ _ ha hb =>
    intro ts r x e
    simp only [runC] at e
    split at e
    · exact ha e
    · exact hb e
  | here _ ih => intro ts r x e; exact ih _ e
  | take k =>
    intro ts r x e
    cases ts with
    | nil => cases e
    | cons t q => have := run_left (en := en) hl (k t) q; simp only [runC] at e; rw [e] at this; simp only [Out.Left] at this; simp; omega
  | @call s k hs =>
    intro ts r x e
    simp only [runC] at e
    cases e2 : R s ts with
    | ok y q => rw [e2] at e; have a1 := h s ts y q hs e2; have := run_left (en := en) hl (k y) q; simp only at e; rw [e] at this; simp only [Out.Left] at this; omega
    | no q => rw [e2] at e; cases e
    | lim p => rw [e2] at e; cases e
    | out => rw [e2] at e; cases e
end Go.Proofs.YtkljakeccfnakaaGreatDoor

namespace Go.Proofs.YtkljakeccfnakaaGreatDoor

theorem eats_body : ∀ s, eats s = true → Eat (body s)
  | .seq, _ => .here fun _ => .call rfl
  | .unit, _ => .see (.take _) .stop
  | .expr, _ => .see (.see (.take _) .stop) (.see (.see (.take _) .stop) (.see (.see (.take _) .stop) (.see (.see (.take _) .stop) (.see (.see2 (.here fun _ => .take _) (.here fun _ => .call rfl)) (.here fun _ => .call rfl)))))
  | .appL _ _, h => by cases h
  | .prodL _ _, h => by cases h
  | .sumL _ _, h => by cases h
  | .decls _ _, h => by cases h
  | .doms _ _, h => by cases h
theorem P_eat (en : Nat) : ∀ (f : Nat) (s : Sym) (ts : List Tok) (x : Ex) (r : List Tok), eats s = true → P en f s ts = .ok x r → r.length < ts.length
  | 0, _, _, _, _, _, h => by cases h
  | f + 1, s, _, _, _, hs, h => run_eat (P_left en f) (fun s ts x r => P_eat en f s ts x r) (eats_body s hs) h

/-- Calls ahead of a taking go to parts of a lower rank. -/
inductive Fit : Nat → Cmd → Prop
  | ret (n : Nat) (x : Ex) : Fit n (.ret x)
  | stop (n : Nat) : Fit n .stop
  | lim (n p : Nat) : Fit n (.lim p)
  | see {n : Nat} {p : Tok → Bool} {a b : Cmd} : Fit n a → Fit n b → Fit n (.see p a b)
  | see2 {n : Nat} {p : Tok → Bool} {a b : Cmd} : Fit n a → Fit n b → Fit n (.see2 p a b)
  | here {n : Nat} {k : Nat → Cmd} : (∀ p, Fit n (k p)) → Fit n (.here k)
  | take {n : Nat} {k : Tok → Cmd} : (∀ t, Fit 9 (k t)) → Fit n (.take k)
  | eat {n : Nat} {s : Sym} {k : Ex → Cmd} : rank s < n → eats s = true → (∀ x, Fit 9 (k x)) → Fit n (.call s k)
  | call {n : Nat} {s : Sym} {k : Ex → Cmd} : rank s < n → (∀ x, Fit n (k x)) → Fit n (.call s k)
theorem run_fuel {en f : Nat} (hf : ∀ s (ts : List Tok), ts.length * 10 + rank s < f → P en f s ts ≠ .out) {n : Nat} {c : Cmd} (hc : Fit n c) :
    ∀ {ts : List Tok}, ts.length * 10 + n ≤ f → runC en (P en f) c ts ≠ .out := by
  induction hc with
  | ret => intro ts _ h; cases h
  | stop => intro ts _ h; cases h
  | lim => intro ts _ h; cases h
  | see _ _ ha hb =>
    intro ts h4
    simp only [runC]
    split
    · exact ha h4
    · exact hb h4
  | see2 _ _ ha hb =>
    intro ts h4
    simp only [runC]
    split
    · exact ha h4
    · exact hb h4
  | here _ ih => intro ts h4; exact ih _ h4
  | take _ ih =>
    intro ts h4
    cases ts with
    | nil => intro h; cases h
    | cons t r =>
      rw [List.length_cons] at h4
      exact ih t (by omega)
  | @eat n s k hr he _ ih =>
    intro ts h4
    have h := hf s ts (by omega)
    simp only [runC]
    cases e : P en f s ts with
    | ok x r =>
      have := P_eat en f s ts x r he e
      exact ih x (by omega)
    | no r => intro h; cases h
    | lim p => intro h; cases h
    | out => exact absurd e h
  | @call n s k hr _ ih =>
    intro ts h4
    have h := hf s ts (by omega)
    simp only [runC]
    cases e : P en f s ts with
    | ok x r =>
      have := P_left en f s ts
      rw [e] at this
      simp only [Out.Left] at this
      exact ih x (by omega)
    | no r => intro h; cases h
    | lim p => intro h; cases h
    | out => exact absurd e h
theorem store_eq {en : Nat} {Rr : Sym → List Tok → Out} {ts : List Tok} (h : hd (isK 1) ts = true) : runC en Rr storeC ts = runC en Rr storeT ts := by
  cases ts with
  | nil => cases h
  | cons t r => simp [storeC, storeT, nameC', kindC, runC, h]
theorem fit_if {n : Nat} {p : Prop} [Decidable p] {a b : Cmd} (ha : Fit n a) (hb : Fit n b) : Fit n (if p then a else b) := by
  split
  · exact ha
  · exact hb
theorem fit_unitK {n : Nat} {k : Nat → Ex → Cmd} (h1 : 1 < n) (hk : ∀ q u, Fit 9 (k q u)) : Fit n (unitK k) := .here fun q => .eat h1 rfl fun u => hk q u
theorem fit_body : ∀ s : Sym, Fit (rank s) (body s)
  | .seq => by
    show Fit 6 seqC
    repeat first
      | exact Fit.ret _ _ | exact Fit.stop _ | exact Fit.lim _ _
      | refine fit_unitK (by omega) fun _ _ => ?_
      | refine fit_if ?_ ?_
      | refine Fit.see ?_ ?_ | refine Fit.see2 ?_ ?_ | refine Fit.here fun _ => ?_ | refine Fit.take fun _ => ?_
      | refine Fit.eat (by simp [rank]) rfl fun _ => ?_ | refine Fit.call (by simp [rank]) fun _ => ?_
  | .expr => by
    show Fit 5 exprC
    repeat first
      | exact Fit.ret _ _ | exact Fit.stop _ | exact Fit.lim _ _
      | refine fit_unitK (by omega) fun _ _ => ?_
      | refine fit_if ?_ ?_
      | refine Fit.see ?_ ?_ | refine Fit.see2 ?_ ?_ | refine Fit.here fun _ => ?_ | refine Fit.take fun _ => ?_
      | refine Fit.eat (by simp [rank]) rfl fun _ => ?_ | refine Fit.call (by simp [rank]) fun _ => ?_
  | .unit => by
    show Fit 1 (.see begins (.take unitT) .stop)
    repeat first
      | exact Fit.ret _ _ | exact Fit.stop _ | exact Fit.lim _ _
      | refine fit_unitK (by omega) fun _ _ => ?_
      | refine fit_if ?_ ?_
      | refine Fit.see ?_ ?_ | refine Fit.see2 ?_ ?_ | refine Fit.here fun _ => ?_ | refine Fit.take fun _ => ?_
      | refine Fit.eat (by simp [rank]) rfl fun _ => ?_ | refine Fit.call (by simp [rank]) fun _ => ?_
  | .appL p a => by
    show Fit 2 (.see begins (.call .unit fun u => .call (.appL p (joinE 8 [] p a u)) .ret) (.ret a))
    repeat first
      | exact Fit.ret _ _ | exact Fit.stop _ | exact Fit.lim _ _
      | refine fit_unitK (by omega) fun _ _ => ?_
      | refine fit_if ?_ ?_
      | refine Fit.see ?_ ?_ | refine Fit.see2 ?_ ?_ | refine Fit.here fun _ => ?_ | refine Fit.take fun _ => ?_
      | refine Fit.eat (by simp [rank]) rfl fun _ => ?_ | refine Fit.call (by simp [rank]) fun _ => ?_
  | .prodL p a => by
    show Fit 3 (body (.prodL p a))
    repeat first
      | exact Fit.ret _ _ | exact Fit.stop _ | exact Fit.lim _ _
      | refine fit_unitK (by omega) fun _ _ => ?_
      | refine fit_if ?_ ?_
      | refine Fit.see ?_ ?_ | refine Fit.see2 ?_ ?_ | refine Fit.here fun _ => ?_ | refine Fit.take fun _ => ?_
      | refine Fit.eat (by simp [rank]) rfl fun _ => ?_ | refine Fit.call (by simp [rank]) fun _ => ?_
  | .sumL p a => by
    show Fit 4 (body (.sumL p a))
    repeat first
      | exact Fit.ret _ _ | exact Fit.stop _ | exact Fit.lim _ _
      | refine fit_unitK (by omega) fun _ _ => ?_
      | refine fit_if ?_ ?_
      | refine Fit.see ?_ ?_ | refine Fit.see2 ?_ ?_ | refine Fit.here fun _ => ?_ | refine Fit.take fun _ => ?_
      | refine Fit.eat (by simp [rank]) rfl fun _ => ?_ | refine Fit.call (by simp [rank]) fun _ => ?_
  | .decls l ds => by
    show Fit 8 (declsC l ds)
    repeat first
      | exact Fit.ret _ _ | exact Fit.stop _ | exact Fit.lim _ _
      | refine fit_unitK (by omega) fun _ _ => ?_
      | refine fit_if ?_ ?_
      | refine Fit.see ?_ ?_ | refine Fit.see2 ?_ ?_ | refine Fit.here fun _ => ?_ | refine Fit.take fun _ => ?_
      | refine Fit.eat (by simp [rank]) rfl fun _ => ?_ | refine Fit.call (by simp [rank]) fun _ => ?_
  | .doms ds es => by
    show Fit 7 (domsC ds es)
    repeat first
      | exact Fit.ret _ _ | exact Fit.stop _ | exact Fit.lim _ _
      | refine fit_unitK (by omega) fun _ _ => ?_
      | refine fit_if ?_ ?_
      | refine Fit.see ?_ ?_ | refine Fit.see2 ?_ ?_ | refine Fit.here fun _ => ?_ | refine Fit.take fun _ => ?_
      | refine Fit.eat (by simp [rank]) rfl fun _ => ?_ | refine Fit.call (by simp [rank]) fun _ => ?_
theorem P_fuel (en : Nat) : ∀ (f : Nat) (s : Sym) (ts : List Tok), ts.length * 10 + rank s < f → P en f s ts ≠ .out
  | 0, _, _, h => by omega
  | f + 1, s, ts, h => run_fuel (fun s ts h => P_fuel en f s ts h) (fit_body s) (by omega)
end Go.Proofs.YtkljakeccfnakaaGreatDoor

namespace Go.Proofs.YtkljakeccfnakaaGreatDoor

def TokEq (t u : Tok) : Prop := t.kind = u.kind ∧ t.text = u.text ∧ t.val = u.val
def SameL : List Tok → List Tok → Prop
  | [], [] => True
  | t :: r, u :: q => TokEq t u ∧ SameL r q
  | _, _ => False
theorem SameL.len : ∀ {l m : List Tok}, SameL l m → l.length = m.length
  | [], [], _ => rfl
  | _ :: _, _ :: _, h => by simp [SameL.len h.2]
def Resp (p : Tok → Bool) : Prop := ∀ t u, TokEq t u → p t = p u
theorem resp_is (s : List UInt8) : Resp (isT s) := fun t u h => by unfold isT; rw [h.2.1]
theorem resp_kind (k : Nat) : Resp (isK k) := fun t u h => by unfold isK; rw [h.1]
theorem resp_begins : Resp begins := fun t u h => by unfold begins; rw [h.1, h.2.1]
theorem resp_or {p q : Tok → Bool} (hp : Resp p) (hq : Resp q) : Resp fun t => p t || q t := fun t u h => by simp only [hp t u h, hq t u h]
theorem resp_any : Resp fun _ => true := fun _ _ _ => rfl
theorem resp_decl : Resp isDecl := fun t u h => by unfold isDecl; rw [resp_is _ t u h, resp_is _ t u h, resp_is _ t u h]
def SymR : Sym → Sym → Prop
  | .seq, .seq => True
  | .expr, .expr => True
  | .unit, .unit => True
  | .appL _ a, .appL _ b => er a = er b
  | .prodL _ a, .prodL _ b => er a = er b
  | .sumL _ a, .sumL _ b => er a = er b
  | .decls l ds, .decls m es => l = m ∧ erL ds = erL es
  | .doms ds es, .doms ds' es' => erL ds = erL ds' ∧ erL es = erL es'
  | _, _ => False

section
variable (S1 S2 : List Tok) (en en' : Nat) (q : Bool)
/-- The same words ahead of S1 and of S2. -/
def Sw (ts us : List Tok) : Prop := ∃ l m, ts = l ++ S1 ∧ us = m ++ S2 ∧ SameL l m
/-- What is asked about. -/
def All (o : Out) : Prop := match o with
  | .ok _ r => S1.length ≤ r.length
  | .no r => q = true ∧ S1.length ≤ r.length
  | .lim _ => q = true ∧ S1 = []
  | .out => False
def OutR (o o' : Out) : Prop := match o, o' with
  | .ok x r, .ok x' r' => er x = er x' ∧ Sw S1 S2 r r'
  | .no r, .no r' => Sw S1 S2 r r'
  | .lim _, .lim _ => True
  | _, _ => False
def Dead (c : Cmd) : Prop := ∀ f, ¬ All S1 q (runC en (P en f) c S1)
inductive Sim : Cmd → Cmd → Prop
  | ret {x x' : Ex} : er x = er x' → Sim (.ret x) (.ret x')
  | stop : Sim .stop .stop
  | lim (p p' : Nat) : Sim (.lim p) (.lim p')
  | see {p : Tok → Bool} {a b a' b' : Cmd} : Resp p → (hd p S1 = hd p S2 ∨ (hd p S1 = true ∧ Dead S1 en q a) ∨ (hd p S1 = false ∧ Dead S1 en q b)) → Sim a a' → Sim b b' → Sim (.see p a b) (.see p a' b')
  | see2 {p : Tok → Bool} {a b a' b' : Cmd} : Resp p → hd p S1 = hd p S2 → (hd p S1.tail = hd p S2.tail ∨ (hd p S1.tail = true ∧ Dead S1 en q a) ∨ (hd p S1.tail = false ∧ Dead S1 en q b)) → Sim a a' → Sim b b' → Sim (.see2 p a b) (.see2 p a' b')
  | here {k k' : Nat → Cmd} : (∀ p p', Sim (k p) (k' p')) → Sim (.here k) (.here k')
  | take {k k' : Tok → Cmd} : (∀ t u, TokEq t u → Sim (k t) (k' u)) → Sim (.take k) (.take k')
  | call {s s' : Sym} {k k' : Ex → Cmd} : SymR s s' → (∀ x x', er x = er x' → Sim (k x) (k' x')) → Sim (.call s k) (.call s' k')
variable {S1 S2 en en' q}
theorem all_left {o : Out} {n : Nat} (h : All S1 q o) (hl : o.Left n) : S1 = [] ∨ S1.length ≤ n := by
  cases o with
  | ok x r => simp only [All, Out.Left] at *; right; omega
  | no r => simp only [All, Out.Left] at *; right; omega
  | lim p => exact Or.inl h.2
  | out => exact h.elim
theorem dead_take (hS : S1 ≠ []) (k : Tok → Cmd) : Dead S1 en q (.take k) := by
  intro f h
  cases hs : S1 with
  | nil => exact hS hs
  | cons t r =>
    have e : runC en (P en f) (.take k) S1 = runC en (P en f) (k t) r := by rw [hs]; rfl
    rw [e] at h
    rcases all_left h (run_left (P_left en f) (k t) r) with h | h
    · exact hS h
    · rw [hs, List.length_cons] at h; omega
theorem hd_app {p : Tok → Bool} (hp : Resp p) : ∀ {l m : List Tok}, SameL l m → l ≠ [] → hd p (l ++ S1) = hd p (m ++ S2)
  | [], _, _, h => absurd rfl h
  | t :: _, u :: _, h, _ => hp t u h.1
theorem sim_run (hS : S1 = [] → S2 = []) {f : Nat} (ih : ∀ s s' ts us, SymR s s' → Sw S1 S2 ts us → All S1 q (P en f s ts) → OutR S1 S2 (P en f s ts) (P en' f s' us)) {c c' : Cmd} (hc : Sim S1 S2 en q c c') :
    ∀ {ts us : List Tok}, Sw S1 S2 ts us → All S1 q (runC en (P en f) c ts) → OutR S1 S2 (runC en (P en f) c ts) (runC en' (P en' f) c' us) := by
  induction hc with
  | ret h => intro ts us hs _; exact ⟨h, hs⟩
  | stop => intro ts us hs _; exact hs
  | lim => intro ts us hs _; trivial
  | @see p a b a' b' hp hb _ _ ha hb' =>
    intro ts us hs hA
    have key : hd p ts = hd p us ∨ ts = S1 := by
      obtain ⟨l, m, rfl, rfl, hl⟩ := hs
      cases l with
      | nil => right; rfl
      | cons t r => left; exact hd_app hp hl (by simp)
    have hag : hd p ts = hd p us := by
      rcases key with key | key
      · exact key
      · obtain ⟨l, m, e1, e2, hl⟩ := hs
        have : l = [] := by
          rw [key] at e1
          have := congrArg List.length e1
          rw [List.length_append] at this
          exact List.length_eq_zero_iff.1 (by omega)
        subst this
        cases m with
        | nil =>
          rw [e2, key]
          rcases hb with hb | ⟨h1, hd1⟩ | ⟨h1, hd1⟩
          · exact hb
          · refine absurd ?_ (hd1 f); rw [key] at hA; simp only [runC, h1, if_true] at hA; exact hA
          · refine absurd ?_ (hd1 f); rw [key] at hA; simp only [runC, h1, Bool.false_eq_true, if_false] at hA; exact hA
        | cons => exact hl.elim
    simp only [runC] at hA ⊢
    rw [← hag]
    split
    · rename_i c; rw [if_pos c] at hA; exact ha hs hA
    · rename_i c; rw [if_neg c] at hA; exact hb' hs hA
  | @see2 p a b a' b' hp hb1 hb _ _ ha hb' =>
    intro ts us hs hA
    have hag : hd p ts.tail = hd p us.tail := by
      obtain ⟨l, m, e1, e2, hl⟩ := hs
      match l, m, hl with
      | [], [], _ =>
        rw [List.nil_append] at e1 e2
        subst e1 e2
        rcases hb with hb | ⟨h1, hd1⟩ | ⟨h1, hd1⟩
        · exact hb
        · refine absurd ?_ (hd1 f); simp only [runC, h1, if_true] at hA; exact hA
        · refine absurd ?_ (hd1 f); simp only [runC, h1, Bool.false_eq_true, if_false] at hA; exact hA
      | [t], [u], _ => subst e1 e2; exact hb1
      | t :: t2 :: r, u :: u2 :: q', h => subst e1 e2; exact hp t2 u2 h.2.1
    simp only [runC] at hA ⊢
    rw [← hag]
    split
    · rename_i c; rw [if_pos c] at hA; exact ha hs hA
    · rename_i c; rw [if_neg c] at hA; exact hb' hs hA
  | here _ ihk => intro ts us hs hA; exact ihk _ _ hs hA
  | @take k k' _ ihk =>
    intro ts us hs hA
    obtain ⟨l, m, e1, e2, hl⟩ := hs
    match l, m, hl with
    | [], [], _ =>
      rw [List.nil_append] at e1 e2
      subst e1 e2
      cases h1 : ts with
      | nil =>
        have h2 := hS h1
        rw [h2]
        exact ⟨[], [], rfl, rfl, trivial⟩
      | cons t r => exact absurd hA (dead_take (by rw [h1]; simp) k f)
    | t :: r, u :: q', h =>
      subst e1 e2
      exact ihk t u h.1 ⟨r, q', rfl, rfl, h.2⟩ hA
  | @call s s' k k' hsym _ ihk =>
    intro ts us hs hA
    have hA1 : All S1 q (P en f s ts) := by
      cases e : P en f s ts with
      | ok x r =>
        simp only [runC, e] at hA
        show S1.length ≤ r.length
        rcases all_left hA (run_left (P_left en f) (k x) r) with h | h
        · rw [h]; exact Nat.zero_le _
        · exact h
      | no r => simp only [runC, e] at hA; exact hA
      | lim p => simp only [runC, e] at hA; exact hA
      | out => simp only [runC, e] at hA; exact hA
    have h := ih s s' ts us hsym hs hA1
    simp only [runC] at hA ⊢
    cases e : P en f s ts with
    | ok x r =>
      rw [e] at hA h
      cases e' : P en' f s' us with
      | ok x' r' => rw [e'] at h; exact ihk x x' h.1 h.2 hA
      | no r' => rw [e'] at h; exact h.elim
      | lim p => rw [e'] at h; exact h.elim
      | out => rw [e'] at h; exact h.elim
    | no r =>
      rw [e] at h
      cases e' : P en' f s' us with
      | ok x' r' => rw [e'] at h; exact h.elim
      | no r' => rw [e'] at h; exact h
      | lim p => rw [e'] at h; exact h.elim
      | out => rw [e'] at h; exact h.elim
    | lim p =>
      rw [e] at h
      cases e' : P en' f s' us with
      | ok x' r' => rw [e'] at h; exact h.elim
      | no r' => rw [e'] at h; exact h.elim
      | lim p => trivial
      | out => rw [e'] at h; exact h.elim
    | out => rw [e] at hA; exact hA.elim

variable (S1 S2 en q) in
/-- Nobody looks at what is unlike in S1 and S2. -/
structure Bd : Prop where
  nil : S1 = [] → S2 = []
  is : ∀ s, s ≠ [41] → s ≠ [101, 110, 100] → hd (isT s) S1 = hd (isT s) S2
  word : hd (isK 1) S1 = hd (isK 1) S2
  num : hd (isK 3) S1 = hd (isK 3) S2
  beg : hd begins S1 = hd begins S2
  any : hd (fun _ => true) S1 = hd (fun _ => true) S2
  par : hd (isT [41]) S1 = hd (isT [41]) S2 ∨ (hd (isT [41]) S1 = false ∧ (∀ k, Dead S1 en q (.call .seq k)) ∧ Dead S1 en q .stop)
  fin : hd (isT [101, 110, 100]) S1 = hd (isT [101, 110, 100]) S2 ∨ (hd (isT [101, 110, 100]) S1 = true ∧ S1 ≠ [])
  sec : hd (isT [58, 61]) S1.tail = hd (isT [58, 61]) S2.tail ∨ (hd (isT [58, 61]) S1.tail = true ∧ S1 ≠ [])
theorem hd_or {p p' : Tok → Bool} (h : hd p S1 = hd p S2) (h' : hd p' S1 = hd p' S2) : hd (fun t => p t || p' t) S1 = hd (fun t => p t || p' t) S2 := by
  cases S1 with
  | nil => cases S2 with
    | nil => rfl
    | cons u r => simp only [hd] at *; rw [← h, ← h']; rfl
  | cons t l => cases S2 with
    | nil => simp only [hd] at *; rw [h, h']; rfl
    | cons u r => simp only [hd] at *; rw [h, h']
section
theorem dead_here {k : Nat → Cmd} (h : ∀ p, Dead S1 en q (k p)) : Dead S1 en q (.here k) := fun f hA => h _ f hA
theorem s_is {s : List UInt8} {a b a' b' : Cmd} (B : Bd S1 S2 en q) (h1 : s ≠ [41]) (h2 : s ≠ [101, 110, 100]) (ha : Sim S1 S2 en q a a') (hb : Sim S1 S2 en q b b') : Sim S1 S2 en q (.see (isT s) a b) (.see (isT s) a' b') := .see (resp_is s) (Or.inl (B.is s h1 h2)) ha hb
theorem s_or {s s2 : List UInt8} {a b a' b' : Cmd} (B : Bd S1 S2 en q) (h1 : s ≠ [41]) (h2 : s ≠ [101, 110, 100]) (h3 : s2 ≠ [41]) (h4 : s2 ≠ [101, 110, 100]) (ha : Sim S1 S2 en q a a') (hb : Sim S1 S2 en q b b') : Sim S1 S2 en q (.see (fun t => isT s t || isT s2 t) a b) (.see (fun t => isT s t || isT s2 t) a' b') := .see (resp_or (resp_is s) (resp_is s2)) (Or.inl (hd_or (B.is s h1 h2) (B.is s2 h3 h4))) ha hb
theorem s_decl {a b a' b' : Cmd} (B : Bd S1 S2 en q) (ha : Sim S1 S2 en q a a') (hb : Sim S1 S2 en q b b') : Sim S1 S2 en q (.see isDecl a b) (.see isDecl a' b') := .see resp_decl (Or.inl (hd_or (hd_or (B.is _ (by decide) (by decide)) (B.is _ (by decide) (by decide))) (B.is _ (by decide) (by decide)))) ha hb
theorem s_word {a b a' b' : Cmd} (B : Bd S1 S2 en q) (ha : Sim S1 S2 en q a a') (hb : Sim S1 S2 en q b b') : Sim S1 S2 en q (.see (isK 1) a b) (.see (isK 1) a' b') := .see (resp_kind 1) (Or.inl B.word) ha hb
theorem s_num {a b a' b' : Cmd} (B : Bd S1 S2 en q) (ha : Sim S1 S2 en q a a') (hb : Sim S1 S2 en q b b') : Sim S1 S2 en q (.see (isK 3) a b) (.see (isK 3) a' b') := .see (resp_kind 3) (Or.inl B.num) ha hb
theorem s_begins {a b a' b' : Cmd} (B : Bd S1 S2 en q) (ha : Sim S1 S2 en q a a') (hb : Sim S1 S2 en q b b') : Sim S1 S2 en q (.see begins a b) (.see begins a' b') := .see resp_begins (Or.inl B.beg) ha hb
theorem s_any {a b a' b' : Cmd} (B : Bd S1 S2 en q) (ha : Sim S1 S2 en q a a') (hb : Sim S1 S2 en q b b') : Sim S1 S2 en q (.see (fun _ => true) a b) (.see (fun _ => true) a' b') := .see resp_any (Or.inl B.any) ha hb
theorem s_parS {a a' : Cmd} (B : Bd S1 S2 en q) (ha : Sim S1 S2 en q a a') : Sim S1 S2 en q (.see (isT [41]) a .stop) (.see (isT [41]) a' .stop) := .see (resp_is _) (B.par.imp id fun h => Or.inr ⟨h.1, h.2.2⟩) ha .stop
theorem s_parC {a a' : Cmd} {k k' : Ex → Cmd} (B : Bd S1 S2 en q) (ha : Sim S1 S2 en q a a') (hb : Sim S1 S2 en q (.call .seq k) (.call .seq k')) : Sim S1 S2 en q (.see (isT [41]) a (.call .seq k)) (.see (isT [41]) a' (.call .seq k')) := .see (resp_is _) (B.par.imp id fun h => Or.inr ⟨h.1, h.2.1 k⟩) ha hb
theorem s_end {k k' : Tok → Cmd} {b b' : Cmd} (B : Bd S1 S2 en q) (ha : Sim S1 S2 en q (.take k) (.take k')) (hb : Sim S1 S2 en q b b') : Sim S1 S2 en q (.see (isT [101, 110, 100]) (.take k) b) (.see (isT [101, 110, 100]) (.take k') b') := .see (resp_is _) (B.fin.imp id fun h => Or.inl ⟨h.1, dead_take h.2 k⟩) ha hb
theorem s_second {b b' : Cmd} (B : Bd S1 S2 en q) (ha : Sim S1 S2 en q storeT storeT) (hb : Sim S1 S2 en q b b') : Sim S1 S2 en q (.see2 (isT [58, 61]) storeT b) (.see2 (isT [58, 61]) storeT b') :=
  .see2 (resp_is _) (B.is _ (by decide) (by decide)) (B.sec.imp id fun h => Or.inl ⟨h.1, dead_here fun _ => dead_take h.2 _⟩) ha hb
theorem s_if {p p' : Prop} [Decidable p] [Decidable p'] {a b a' b' : Cmd} (h : p ↔ p') (ha : Sim S1 S2 en q a a') (hb : Sim S1 S2 en q b b') : Sim S1 S2 en q (if p then a else b) (if p' then a' else b') := by
  by_cases c : p
  · rw [if_pos c, if_pos (h.1 c)]; exact ha
  · rw [if_neg c, if_neg (fun x => c (h.2 x))]; exact hb
theorem s_unitK {k k' : Nat → Ex → Cmd} (h : ∀ p p' u u', er u = er u' → Sim S1 S2 en q (k p u) (k' p' u')) : Sim S1 S2 en q (unitK k) (unitK k') := .here fun p p' => .call trivial fun u u' hu => h p p' u u' hu
end
end
end Go.Proofs.YtkljakeccfnakaaGreatDoor

namespace Go.Proofs.YtkljakeccfnakaaGreatDoor

section
variable {S1 S2 : List Tok} {en en' : Nat} {q : Bool}
theorem s_take {k k' : Tok → Cmd} (h : ∀ kd tx v p p', Sim S1 S2 en q (k ⟨kd, tx, v, p⟩) (k' ⟨kd, tx, v, p'⟩)) : Sim S1 S2 en q (.take k) (.take k') := by
  refine .take fun t u e => ?_
  obtain ⟨a, b, c, d⟩ := t
  obtain ⟨a', b', c', d'⟩ := u
  obtain ⟨h1, h2, h3⟩ := e
  dsimp only at h1 h2 h3
  subst h1 h2 h3
  exact h a b c d d'
theorem sim_test (B : Bd S1 S2 en q) {p p' : Nat} {x x' : Ex} (h : er x = er x') : Sim S1 S2 en q (testC p x) (testC p' x') := by
    repeat first
      | exact Sim.stop | exact Sim.lim _ _
      | refine s_unitK fun _ _ _ _ _ => ?_
      | exact Sim.ret (by first | assumption | rfl | exact er_mk rfl | exact er_mk (erL1 (by assumption)) | exact er_mk (erL2 (by assumption) (by assumption)) | exact er_mk (erL3 (by assumption) (by assumption) (by assumption)) | exact er_mk (erL3 (by assumption) (by assumption) rfl) | exact er_mk (erL3 (by assumption) rfl (by assumption)))
      | refine s_if Iff.rfl ?_ ?_
      | refine s_if (by rw [kind_er (by assumption)]) ?_ ?_
      | refine s_if (by rw [deep_same (by assumption)]) ?_ ?_
      | refine s_parC B ?_ ?_ | refine s_parS B ?_ | refine s_end B ?_ ?_ | refine s_second B ?_ ?_
      | refine s_is B (by decide) (by decide) ?_ ?_ | refine s_or B (by decide) (by decide) (by decide) (by decide) ?_ ?_ | refine s_word B ?_ ?_ | refine s_num B ?_ ?_ | refine s_begins B ?_ ?_ | refine s_decl B ?_ ?_ | refine s_any B ?_ ?_
      | refine Sim.here fun _ _ => ?_ | refine s_take fun _ _ _ _ _ => ?_
      | refine Sim.call (by first | trivial | (show er _ = er _; first | assumption | rfl | exact er_mk rfl | exact er_mk (erL1 (by assumption)) | exact er_mk (erL2 (by assumption) (by assumption)) | exact er_mk (erL3 (by assumption) (by assumption) (by assumption)) | exact er_mk (erL3 (by assumption) (by assumption) rfl) | exact er_mk (erL3 (by assumption) rfl (by assumption)))) fun _ _ _ => ?_
theorem sim_seq (B : Bd S1 S2 en q) : Sim S1 S2 en q seqC seqC := by
    repeat first
      | exact Sim.stop | exact Sim.lim _ _
      | refine s_unitK fun _ _ _ _ _ => ?_
      | exact Sim.ret (by first | assumption | rfl | exact er_mk rfl | exact er_mk (erL1 (by assumption)) | exact er_mk (erL2 (by assumption) (by assumption)) | exact er_mk (erL3 (by assumption) (by assumption) (by assumption)) | exact er_mk (erL3 (by assumption) (by assumption) rfl) | exact er_mk (erL3 (by assumption) rfl (by assumption)))
      | refine s_if Iff.rfl ?_ ?_
      | refine s_if (by rw [kind_er (by assumption)]) ?_ ?_
      | refine s_if (by rw [deep_same (by assumption)]) ?_ ?_
      | refine s_parC B ?_ ?_ | refine s_parS B ?_ | refine s_end B ?_ ?_ | refine s_second B ?_ ?_
      | refine s_is B (by decide) (by decide) ?_ ?_ | refine s_or B (by decide) (by decide) (by decide) (by decide) ?_ ?_ | refine s_word B ?_ ?_ | refine s_num B ?_ ?_ | refine s_begins B ?_ ?_ | refine s_decl B ?_ ?_ | refine s_any B ?_ ?_
      | refine Sim.here fun _ _ => ?_ | refine s_take fun _ _ _ _ _ => ?_
      | refine Sim.call (by first | trivial | (show er _ = er _; first | assumption | rfl | exact er_mk rfl | exact er_mk (erL1 (by assumption)) | exact er_mk (erL2 (by assumption) (by assumption)) | exact er_mk (erL3 (by assumption) (by assumption) (by assumption)) | exact er_mk (erL3 (by assumption) (by assumption) rfl) | exact er_mk (erL3 (by assumption) rfl (by assumption)))) fun _ _ _ => ?_
theorem sim_let (B : Bd S1 S2 en q) : Sim S1 S2 en q letC letC := by
    repeat first
      | exact Sim.stop | exact Sim.lim _ _
      | refine s_unitK fun _ _ _ _ _ => ?_
      | exact Sim.ret (by first | assumption | rfl | exact er_mk rfl | exact er_mk (erL1 (by assumption)) | exact er_mk (erL2 (by assumption) (by assumption)) | exact er_mk (erL3 (by assumption) (by assumption) (by assumption)) | exact er_mk (erL3 (by assumption) (by assumption) rfl) | exact er_mk (erL3 (by assumption) rfl (by assumption)))
      | refine s_if Iff.rfl ?_ ?_
      | refine s_if (by rw [kind_er (by assumption)]) ?_ ?_
      | refine s_if (by rw [deep_same (by assumption)]) ?_ ?_
      | refine s_parC B ?_ ?_ | refine s_parS B ?_ | refine s_end B ?_ ?_ | refine s_second B ?_ ?_
      | refine s_is B (by decide) (by decide) ?_ ?_ | refine s_or B (by decide) (by decide) (by decide) (by decide) ?_ ?_ | refine s_word B ?_ ?_ | refine s_num B ?_ ?_ | refine s_begins B ?_ ?_ | refine s_decl B ?_ ?_ | refine s_any B ?_ ?_
      | refine Sim.here fun _ _ => ?_ | refine s_take fun _ _ _ _ _ => ?_
      | refine Sim.call (by first | trivial | (show er _ = er _; first | assumption | rfl | exact er_mk rfl | exact er_mk (erL1 (by assumption)) | exact er_mk (erL2 (by assumption) (by assumption)) | exact er_mk (erL3 (by assumption) (by assumption) (by assumption)) | exact er_mk (erL3 (by assumption) (by assumption) rfl) | exact er_mk (erL3 (by assumption) rfl (by assumption)))) fun _ _ _ => ?_
theorem sim_choice (B : Bd S1 S2 en q) : Sim S1 S2 en q choiceC choiceC := by
    repeat first
      | exact Sim.stop | exact Sim.lim _ _
      | refine s_unitK fun _ _ _ _ _ => ?_
      | exact Sim.ret (by first | assumption | rfl | exact er_mk rfl | exact er_mk (erL1 (by assumption)) | exact er_mk (erL2 (by assumption) (by assumption)) | exact er_mk (erL3 (by assumption) (by assumption) (by assumption)) | exact er_mk (erL3 (by assumption) (by assumption) rfl) | exact er_mk (erL3 (by assumption) rfl (by assumption)))
      | refine s_if Iff.rfl ?_ ?_
      | refine s_if (by rw [kind_er (by assumption)]) ?_ ?_
      | refine s_if (by rw [deep_same (by assumption)]) ?_ ?_
      | refine s_parC B ?_ ?_ | refine s_parS B ?_ | refine s_end B ?_ ?_ | refine s_second B ?_ ?_
      | refine s_is B (by decide) (by decide) ?_ ?_ | refine s_or B (by decide) (by decide) (by decide) (by decide) ?_ ?_ | refine s_word B ?_ ?_ | refine s_num B ?_ ?_ | refine s_begins B ?_ ?_ | refine s_decl B ?_ ?_ | refine s_any B ?_ ?_
      | refine Sim.here fun _ _ => ?_ | refine s_take fun _ _ _ _ _ => ?_
      | refine Sim.call (by first | trivial | (show er _ = er _; first | assumption | rfl | exact er_mk rfl | exact er_mk (erL1 (by assumption)) | exact er_mk (erL2 (by assumption) (by assumption)) | exact er_mk (erL3 (by assumption) (by assumption) (by assumption)) | exact er_mk (erL3 (by assumption) (by assumption) rfl) | exact er_mk (erL3 (by assumption) rfl (by assumption)))) fun _ _ _ => ?_
theorem sim_fun (B : Bd S1 S2 en q) : Sim S1 S2 en q funC funC := by
    repeat first
      | exact Sim.stop | exact Sim.lim _ _
      | refine s_unitK fun _ _ _ _ _ => ?_
      | exact Sim.ret (by first | assumption | rfl | exact er_mk rfl | exact er_mk (erL1 (by assumption)) | exact er_mk (erL2 (by assumption) (by assumption)) | exact er_mk (erL3 (by assumption) (by assumption) (by assumption)) | exact er_mk (erL3 (by assumption) (by assumption) rfl) | exact er_mk (erL3 (by assumption) rfl (by assumption)))
      | refine s_if Iff.rfl ?_ ?_
      | refine s_if (by rw [kind_er (by assumption)]) ?_ ?_
      | refine s_if (by rw [deep_same (by assumption)]) ?_ ?_
      | refine s_parC B ?_ ?_ | refine s_parS B ?_ | refine s_end B ?_ ?_ | refine s_second B ?_ ?_
      | refine s_is B (by decide) (by decide) ?_ ?_ | refine s_or B (by decide) (by decide) (by decide) (by decide) ?_ ?_ | refine s_word B ?_ ?_ | refine s_num B ?_ ?_ | refine s_begins B ?_ ?_ | refine s_decl B ?_ ?_ | refine s_any B ?_ ?_
      | refine Sim.here fun _ _ => ?_ | refine s_take fun _ _ _ _ _ => ?_
      | refine Sim.call (by first | trivial | (show er _ = er _; first | assumption | rfl | exact er_mk rfl | exact er_mk (erL1 (by assumption)) | exact er_mk (erL2 (by assumption) (by assumption)) | exact er_mk (erL3 (by assumption) (by assumption) (by assumption)) | exact er_mk (erL3 (by assumption) (by assumption) rfl) | exact er_mk (erL3 (by assumption) rfl (by assumption)))) fun _ _ _ => ?_
theorem sim_store (B : Bd S1 S2 en q) : Sim S1 S2 en q storeT storeT := by
    repeat first
      | exact Sim.stop | exact Sim.lim _ _
      | refine s_unitK fun _ _ _ _ _ => ?_
      | exact Sim.ret (by first | assumption | rfl | exact er_mk rfl | exact er_mk (erL1 (by assumption)) | exact er_mk (erL2 (by assumption) (by assumption)) | exact er_mk (erL3 (by assumption) (by assumption) (by assumption)) | exact er_mk (erL3 (by assumption) (by assumption) rfl) | exact er_mk (erL3 (by assumption) rfl (by assumption)))
      | refine s_if Iff.rfl ?_ ?_
      | refine s_if (by rw [kind_er (by assumption)]) ?_ ?_
      | refine s_if (by rw [deep_same (by assumption)]) ?_ ?_
      | refine s_parC B ?_ ?_ | refine s_parS B ?_ | refine s_end B ?_ ?_ | refine s_second B ?_ ?_
      | refine s_is B (by decide) (by decide) ?_ ?_ | refine s_or B (by decide) (by decide) (by decide) (by decide) ?_ ?_ | refine s_word B ?_ ?_ | refine s_num B ?_ ?_ | refine s_begins B ?_ ?_ | refine s_decl B ?_ ?_ | refine s_any B ?_ ?_
      | refine Sim.here fun _ _ => ?_ | refine s_take fun _ _ _ _ _ => ?_
      | refine Sim.call (by first | trivial | (show er _ = er _; first | assumption | rfl | exact er_mk rfl | exact er_mk (erL1 (by assumption)) | exact er_mk (erL2 (by assumption) (by assumption)) | exact er_mk (erL3 (by assumption) (by assumption) (by assumption)) | exact er_mk (erL3 (by assumption) (by assumption) rfl) | exact er_mk (erL3 (by assumption) rfl (by assumption)))) fun _ _ _ => ?_
theorem sim_match (B : Bd S1 S2 en q) : Sim S1 S2 en q matchC matchC := by
    repeat first
      | exact Sim.stop | exact Sim.lim _ _
      | refine s_unitK fun _ _ _ _ _ => ?_
      | exact Sim.ret (by first | assumption | rfl | exact er_mk rfl | exact er_mk (erL1 (by assumption)) | exact er_mk (erL2 (by assumption) (by assumption)) | exact er_mk (erL3 (by assumption) (by assumption) (by assumption)) | exact er_mk (erL3 (by assumption) (by assumption) rfl) | exact er_mk (erL3 (by assumption) rfl (by assumption)))
      | refine s_if Iff.rfl ?_ ?_
      | refine s_if (by rw [kind_er (by assumption)]) ?_ ?_
      | refine s_if (by rw [deep_same (by assumption)]) ?_ ?_
      | refine s_parC B ?_ ?_ | refine s_parS B ?_ | refine s_end B ?_ ?_ | refine s_second B ?_ ?_
      | refine s_is B (by decide) (by decide) ?_ ?_ | refine s_or B (by decide) (by decide) (by decide) (by decide) ?_ ?_ | refine s_word B ?_ ?_ | refine s_num B ?_ ?_ | refine s_begins B ?_ ?_ | refine s_decl B ?_ ?_ | refine s_any B ?_ ?_
      | refine Sim.here fun _ _ => ?_ | refine s_take fun _ _ _ _ _ => ?_
      | refine Sim.call (by first | trivial | (show er _ = er _; first | assumption | rfl | exact er_mk rfl | exact er_mk (erL1 (by assumption)) | exact er_mk (erL2 (by assumption) (by assumption)) | exact er_mk (erL3 (by assumption) (by assumption) (by assumption)) | exact er_mk (erL3 (by assumption) (by assumption) rfl) | exact er_mk (erL3 (by assumption) rfl (by assumption)))) fun _ _ _ => ?_
theorem sim_put (B : Bd S1 S2 en q) {p p' v v' : Nat} {x x' : Ex} (h : er x = er x') : Sim S1 S2 en q (if x.kind = 12 then mayC [60, 45] (.call .expr fun g => .ret (.mk 13 x.text [] 0 p [x.kid0, g])) (testC v x) else testC v x) (if x'.kind = 12 then mayC [60, 45] (.call .expr fun g => .ret (.mk 13 x'.text [] 0 p' [x'.kid0, g])) (testC v' x') else testC v' x') := by
  refine s_if (by rw [kind_er h]) (s_is B (by decide) (by decide) (s_take fun _ _ _ _ _ => .call trivial fun g g' hg => .ret ?_) (sim_test B h)) (sim_test B h)
  rw [text_er h]
  exact er_mk (erL2 (kid0_er h) hg)
theorem sim_expr (B : Bd S1 S2 en q) : Sim S1 S2 en q exprC exprC :=
  s_is B (by decide) (by decide) (sim_let B) (s_is B (by decide) (by decide) (sim_choice B) (s_is B (by decide) (by decide) (sim_fun B) (s_is B (by decide) (by decide) (sim_match B)
    (s_word B (s_second B (sim_store B) (s_unitK fun _ _ _ _ h => sim_put B h)) (s_unitK fun _ _ _ _ h => sim_test B h)))))
theorem sim_inside (B : Bd S1 S2 en q) (p p' : Nat) : Sim S1 S2 en q (insideC p) (insideC p') := by
    repeat first
      | exact Sim.stop | exact Sim.lim _ _
      | refine s_unitK fun _ _ _ _ _ => ?_
      | exact Sim.ret (by first | assumption | rfl | exact er_mk rfl | exact er_mk (erL1 (by assumption)) | exact er_mk (erL2 (by assumption) (by assumption)) | exact er_mk (erL3 (by assumption) (by assumption) (by assumption)) | exact er_mk (erL3 (by assumption) (by assumption) rfl) | exact er_mk (erL3 (by assumption) rfl (by assumption)))
      | refine s_if Iff.rfl ?_ ?_
      | refine s_if (by rw [kind_er (by assumption)]) ?_ ?_
      | refine s_if (by rw [deep_same (by assumption)]) ?_ ?_
      | refine s_parC B ?_ ?_ | refine s_parS B ?_ | refine s_end B ?_ ?_ | refine s_second B ?_ ?_
      | refine s_is B (by decide) (by decide) ?_ ?_ | refine s_or B (by decide) (by decide) (by decide) (by decide) ?_ ?_ | refine s_word B ?_ ?_ | refine s_num B ?_ ?_ | refine s_begins B ?_ ?_ | refine s_decl B ?_ ?_ | refine s_any B ?_ ?_
      | refine Sim.here fun _ _ => ?_ | refine s_take fun _ _ _ _ _ => ?_
      | refine Sim.call (by first | trivial | (show er _ = er _; first | assumption | rfl | exact er_mk rfl | exact er_mk (erL1 (by assumption)) | exact er_mk (erL2 (by assumption) (by assumption)) | exact er_mk (erL3 (by assumption) (by assumption) (by assumption)) | exact er_mk (erL3 (by assumption) (by assumption) rfl) | exact er_mk (erL3 (by assumption) rfl (by assumption)))) fun _ _ _ => ?_
theorem sim_named (B : Bd S1 S2 en q) (kd : Nat) (tx : List UInt8) (v p p' : Nat) : Sim S1 S2 en q (namedC ⟨kd, tx, v, p⟩) (namedC ⟨kd, tx, v, p'⟩) := by
    repeat first
      | exact Sim.stop | exact Sim.lim _ _
      | refine s_unitK fun _ _ _ _ _ => ?_
      | exact Sim.ret (by first | assumption | rfl | exact er_mk rfl | exact er_mk (erL1 (by assumption)) | exact er_mk (erL2 (by assumption) (by assumption)) | exact er_mk (erL3 (by assumption) (by assumption) (by assumption)) | exact er_mk (erL3 (by assumption) (by assumption) rfl) | exact er_mk (erL3 (by assumption) rfl (by assumption)))
      | refine s_if Iff.rfl ?_ ?_
      | refine s_if (by rw [kind_er (by assumption)]) ?_ ?_
      | refine s_if (by rw [deep_same (by assumption)]) ?_ ?_
      | refine s_parC B ?_ ?_ | refine s_parS B ?_ | refine s_end B ?_ ?_ | refine s_second B ?_ ?_
      | refine s_is B (by decide) (by decide) ?_ ?_ | refine s_or B (by decide) (by decide) (by decide) (by decide) ?_ ?_ | refine s_word B ?_ ?_ | refine s_num B ?_ ?_ | refine s_begins B ?_ ?_ | refine s_decl B ?_ ?_ | refine s_any B ?_ ?_
      | refine Sim.here fun _ _ => ?_ | refine s_take fun _ _ _ _ _ => ?_
      | refine Sim.call (by first | trivial | (show er _ = er _; first | assumption | rfl | exact er_mk rfl | exact er_mk (erL1 (by assumption)) | exact er_mk (erL2 (by assumption) (by assumption)) | exact er_mk (erL3 (by assumption) (by assumption) (by assumption)) | exact er_mk (erL3 (by assumption) (by assumption) rfl) | exact er_mk (erL3 (by assumption) rfl (by assumption)))) fun _ _ _ => ?_
theorem sim_unitT (B : Bd S1 S2 en q) (kd : Nat) (tx : List UInt8) (v p p' : Nat) : Sim S1 S2 en q (unitT ⟨kd, tx, v, p⟩) (unitT ⟨kd, tx, v, p'⟩) := by
    repeat first
      | exact sim_inside B _ _ | exact sim_named B _ _ _ _ _
      | exact Sim.stop | exact Sim.lim _ _
      | refine s_unitK fun _ _ _ _ _ => ?_
      | exact Sim.ret (by first | assumption | rfl | exact er_mk rfl | exact er_mk (erL1 (by assumption)) | exact er_mk (erL2 (by assumption) (by assumption)) | exact er_mk (erL3 (by assumption) (by assumption) (by assumption)) | exact er_mk (erL3 (by assumption) (by assumption) rfl) | exact er_mk (erL3 (by assumption) rfl (by assumption)))
      | refine s_if Iff.rfl ?_ ?_
      | refine s_if (by rw [kind_er (by assumption)]) ?_ ?_
      | refine s_if (by rw [deep_same (by assumption)]) ?_ ?_
      | refine s_parC B ?_ ?_ | refine s_parS B ?_ | refine s_end B ?_ ?_ | refine s_second B ?_ ?_
      | refine s_is B (by decide) (by decide) ?_ ?_ | refine s_or B (by decide) (by decide) (by decide) (by decide) ?_ ?_ | refine s_word B ?_ ?_ | refine s_num B ?_ ?_ | refine s_begins B ?_ ?_ | refine s_decl B ?_ ?_ | refine s_any B ?_ ?_
      | refine Sim.here fun _ _ => ?_ | refine s_take fun _ _ _ _ _ => ?_
      | refine Sim.call (by first | trivial | (show er _ = er _; first | assumption | rfl | exact er_mk rfl | exact er_mk (erL1 (by assumption)) | exact er_mk (erL2 (by assumption) (by assumption)) | exact er_mk (erL3 (by assumption) (by assumption) (by assumption)) | exact er_mk (erL3 (by assumption) (by assumption) rfl) | exact er_mk (erL3 (by assumption) rfl (by assumption)))) fun _ _ _ => ?_
theorem sim_decl (B : Bd S1 S2 en q) {k k' : Ex → Cmd} (hk : ∀ x x', er x = er x' → x.kind = x'.kind → x.n = x'.n → Sim S1 S2 en q (k x) (k' x')) : Sim S1 S2 en q (declC k) (declC k') := by
    repeat first
      | exact hk _ _ (er_mk rfl) rfl rfl
      | exact Sim.stop | exact Sim.lim _ _
      | refine s_unitK fun _ _ _ _ _ => ?_
      | exact Sim.ret (by first | assumption | rfl | exact er_mk rfl | exact er_mk (erL1 (by assumption)) | exact er_mk (erL2 (by assumption) (by assumption)) | exact er_mk (erL3 (by assumption) (by assumption) (by assumption)) | exact er_mk (erL3 (by assumption) (by assumption) rfl) | exact er_mk (erL3 (by assumption) rfl (by assumption)))
      | refine s_if Iff.rfl ?_ ?_
      | refine s_if (by rw [kind_er (by assumption)]) ?_ ?_
      | refine s_if (by rw [deep_same (by assumption)]) ?_ ?_
      | refine s_parC B ?_ ?_ | refine s_parS B ?_ | refine s_end B ?_ ?_ | refine s_second B ?_ ?_
      | refine s_is B (by decide) (by decide) ?_ ?_ | refine s_or B (by decide) (by decide) (by decide) (by decide) ?_ ?_ | refine s_word B ?_ ?_ | refine s_num B ?_ ?_ | refine s_begins B ?_ ?_ | refine s_decl B ?_ ?_ | refine s_any B ?_ ?_
      | refine Sim.here fun _ _ => ?_ | refine s_take fun _ _ _ _ _ => ?_
      | refine Sim.call (by first | trivial | (show er _ = er _; first | assumption | rfl | exact er_mk rfl | exact er_mk (erL1 (by assumption)) | exact er_mk (erL2 (by assumption) (by assumption)) | exact er_mk (erL3 (by assumption) (by assumption) (by assumption)) | exact er_mk (erL3 (by assumption) (by assumption) rfl) | exact er_mk (erL3 (by assumption) rfl (by assumption)))) fun _ _ _ => ?_
theorem erL_add {l l' : List Ex} {x x' : Ex} (h : erL l = erL l') (hx : er x = er x') : erL (l ++ [x]) = erL (l' ++ [x']) := by rw [erL_app, erL_app, h, erL1 hx]
theorem sim_doms (B : Bd S1 S2 en q) {ds ds' es es' : List Ex} (h1 : erL ds = erL ds') (h2 : erL es = erL es') : Sim S1 S2 en q (domsC ds es) (domsC ds' es') := by
  have go : Sim S1 S2 en q (domC fun e => .call (.doms ds (es ++ [e])) .ret) (domC fun e => .call (.doms ds' (es' ++ [e])) .ret) := by
    refine s_is B (by decide) (by decide) (s_take fun _ _ _ _ _ => .call trivial fun x x' hx => s_end B (s_take fun _ _ _ _ _ => s_if (by rw [deep_same hx]) (.lim _ _) (.call ⟨h1, erL_add h2 hx⟩ fun y y' hy => .ret hy)) .stop) .stop
  have go2 := s_if (p := es.length = 3) (p' := es'.length = 3) (by rw [erL_len h2]) (s_is (s := [100, 111, 109, 97, 105, 110]) B (by decide) (by decide) (.here fun p p' => .lim p p') go) go
  refine s_if (by rw [erL_len h2]) go2 (s_any B go2 (.ret ?_))
  unfold progE
  rw [erL_len h1]
  exact er_mk (by rw [erL_app, erL_app, h1, h2])
theorem sim_decls (B : Bd S1 S2 en q) (l : Nat) {ds ds' : List Ex} (h1 : erL ds = erL ds') : Sim S1 S2 en q (declsC l ds) (declsC l ds') := by
  refine s_decl B (s_if (by rw [erL_len h1]) (.here fun p p' => .lim p p') (sim_decl B fun x x' hx hk hn => ?_)) (.call ⟨h1, rfl⟩ fun y y' hy => .ret hy)
  have hs : sizeE x = sizeE x' := by unfold sizeE; rw [hk, hn]
  refine s_if (by rw [hs]) (.lim _ _) (.call ⟨by rw [hs], erL_add h1 hx⟩ fun y y' hy => .ret hy)
theorem sim_body (B : Bd S1 S2 en q) : ∀ {s s' : Sym}, SymR s s' → Sim S1 S2 en q (body s) (body s')
  | .seq, .seq, _ => sim_seq B
  | .expr, .expr, _ => sim_expr B
  | .unit, .unit, _ => s_begins B (s_take fun _ _ _ _ _ => sim_unitT B _ _ _ _ _) .stop
  | .appL p a, .appL p' a', h => by
    have h : er a = er a' := h
    show Sim S1 S2 en q (.see begins _ _) (.see begins _ _)
    repeat first
      | exact Sim.stop | exact Sim.lim _ _
      | refine s_unitK fun _ _ _ _ _ => ?_
      | exact Sim.ret (by first | assumption | rfl | exact er_mk rfl | exact er_mk (erL1 (by assumption)) | exact er_mk (erL2 (by assumption) (by assumption)) | exact er_mk (erL3 (by assumption) (by assumption) (by assumption)) | exact er_mk (erL3 (by assumption) (by assumption) rfl) | exact er_mk (erL3 (by assumption) rfl (by assumption)))
      | refine s_if Iff.rfl ?_ ?_
      | refine s_if (by rw [kind_er (by assumption)]) ?_ ?_
      | refine s_if (by rw [deep_same (by assumption)]) ?_ ?_
      | refine s_parC B ?_ ?_ | refine s_parS B ?_ | refine s_end B ?_ ?_ | refine s_second B ?_ ?_
      | refine s_is B (by decide) (by decide) ?_ ?_ | refine s_or B (by decide) (by decide) (by decide) (by decide) ?_ ?_ | refine s_word B ?_ ?_ | refine s_num B ?_ ?_ | refine s_begins B ?_ ?_ | refine s_decl B ?_ ?_ | refine s_any B ?_ ?_
      | refine Sim.here fun _ _ => ?_ | refine s_take fun _ _ _ _ _ => ?_
      | refine Sim.call (by first | trivial | (show er _ = er _; first | assumption | rfl | exact er_mk rfl | exact er_mk (erL1 (by assumption)) | exact er_mk (erL2 (by assumption) (by assumption)) | exact er_mk (erL3 (by assumption) (by assumption) (by assumption)) | exact er_mk (erL3 (by assumption) (by assumption) rfl) | exact er_mk (erL3 (by assumption) rfl (by assumption)))) fun _ _ _ => ?_
  | .prodL p a, .prodL p' a', h => by
    have h : er a = er a' := h
    show Sim S1 S2 en q (.see _ _ _) (.see _ _ _)
    repeat first
      | exact Sim.stop | exact Sim.lim _ _
      | refine s_unitK fun _ _ _ _ _ => ?_
      | exact Sim.ret (by first | assumption | rfl | exact er_mk rfl | exact er_mk (erL1 (by assumption)) | exact er_mk (erL2 (by assumption) (by assumption)) | exact er_mk (erL3 (by assumption) (by assumption) (by assumption)) | exact er_mk (erL3 (by assumption) (by assumption) rfl) | exact er_mk (erL3 (by assumption) rfl (by assumption)))
      | refine s_if Iff.rfl ?_ ?_
      | refine s_if (by rw [kind_er (by assumption)]) ?_ ?_
      | refine s_if (by rw [deep_same (by assumption)]) ?_ ?_
      | refine s_parC B ?_ ?_ | refine s_parS B ?_ | refine s_end B ?_ ?_ | refine s_second B ?_ ?_
      | refine s_is B (by decide) (by decide) ?_ ?_ | refine s_or B (by decide) (by decide) (by decide) (by decide) ?_ ?_ | refine s_word B ?_ ?_ | refine s_num B ?_ ?_ | refine s_begins B ?_ ?_ | refine s_decl B ?_ ?_ | refine s_any B ?_ ?_
      | refine Sim.here fun _ _ => ?_ | refine s_take fun _ _ _ _ _ => ?_
      | refine Sim.call (by first | trivial | (show er _ = er _; first | assumption | rfl | exact er_mk rfl | exact er_mk (erL1 (by assumption)) | exact er_mk (erL2 (by assumption) (by assumption)) | exact er_mk (erL3 (by assumption) (by assumption) (by assumption)) | exact er_mk (erL3 (by assumption) (by assumption) rfl) | exact er_mk (erL3 (by assumption) rfl (by assumption)))) fun _ _ _ => ?_
  | .sumL p a, .sumL p' a', h => by
    have h : er a = er a' := h
    show Sim S1 S2 en q (.see _ _ _) (.see _ _ _)
    repeat first
      | exact Sim.stop | exact Sim.lim _ _
      | refine s_unitK fun _ _ _ _ _ => ?_
      | exact Sim.ret (by first | assumption | rfl | exact er_mk rfl | exact er_mk (erL1 (by assumption)) | exact er_mk (erL2 (by assumption) (by assumption)) | exact er_mk (erL3 (by assumption) (by assumption) (by assumption)) | exact er_mk (erL3 (by assumption) (by assumption) rfl) | exact er_mk (erL3 (by assumption) rfl (by assumption)))
      | refine s_if Iff.rfl ?_ ?_
      | refine s_if (by rw [kind_er (by assumption)]) ?_ ?_
      | refine s_if (by rw [deep_same (by assumption)]) ?_ ?_
      | refine s_parC B ?_ ?_ | refine s_parS B ?_ | refine s_end B ?_ ?_ | refine s_second B ?_ ?_
      | refine s_is B (by decide) (by decide) ?_ ?_ | refine s_or B (by decide) (by decide) (by decide) (by decide) ?_ ?_ | refine s_word B ?_ ?_ | refine s_num B ?_ ?_ | refine s_begins B ?_ ?_ | refine s_decl B ?_ ?_ | refine s_any B ?_ ?_
      | refine Sim.here fun _ _ => ?_ | refine s_take fun _ _ _ _ _ => ?_
      | refine Sim.call (by first | trivial | (show er _ = er _; first | assumption | rfl | exact er_mk rfl | exact er_mk (erL1 (by assumption)) | exact er_mk (erL2 (by assumption) (by assumption)) | exact er_mk (erL3 (by assumption) (by assumption) (by assumption)) | exact er_mk (erL3 (by assumption) (by assumption) rfl) | exact er_mk (erL3 (by assumption) rfl (by assumption)))) fun _ _ _ => ?_
  | .decls l ds, .decls m ds', h => by obtain ⟨rfl, h⟩ := h; exact sim_decls B l h
  | .doms ds es, .doms ds' es', h => sim_doms B h.1 h.2
theorem sim_P (B : Bd S1 S2 en q) : ∀ (f : Nat) (s s' : Sym) (ts us : List Tok), SymR s s' → Sw S1 S2 ts us → All S1 q (P en f s ts) → OutR S1 S2 (P en f s ts) (P en' f s' us)
  | 0, _, _, _, _, _, _, h => h.elim
  | f + 1, _, _, _, _, h1, h2, h3 => sim_run B.nil (sim_P B f) (sim_body B h1) h2 h3
end
end Go.Proofs.YtkljakeccfnakaaGreatDoor

namespace Go.Proofs.YtkljakeccfnakaaGreatDoor

/-- What comes of all words. -/
def parseO (en : Nat) (ts : List Tok) : Out := P en (ts.length * 10 + 20) (.decls 0 []) ts
theorem parseO_ne (en : Nat) (ts : List Tok) : parseO en ts ≠ .out := P_fuel en _ _ _ (by simp only [rank]; omega)
/-- What comes of a part, with enough steps. -/
def Ev (en : Nat) (s : Sym) (ts : List Tok) (o : Out) : Prop := o ≠ .out ∧ ∃ f, P en f s ts = o
def EvC (en : Nat) (c : Cmd) (ts : List Tok) (o : Out) : Prop := o ≠ .out ∧ ∃ f, runC en (P en f) c ts = o
theorem Ev.of {en : Nat} {s : Sym} {ts : List Tok} {o : Out} (h : EvC en (body s) ts o) : Ev en s ts o := ⟨h.1, h.2.elim fun f e => ⟨f + 1, e⟩⟩
theorem Ev.at {en f : Nat} {s : Sym} {ts : List Tok} {o : Out} (h : Ev en s ts o) (hf : P en f s ts ≠ .out) : P en f s ts = o := by
  obtain ⟨ho, g, e⟩ := h
  rcases Nat.le_total f g with q | q
  · rw [← P_mono en q s ts hf, e]
  · rw [P_mono en q s ts (by rw [e]; exact ho), e]
theorem EvC.ret {en : Nat} (x : Ex) (ts : List Tok) : EvC en (.ret x) ts (.ok x ts) := ⟨(fun h => by cases h), 0, rfl⟩
theorem EvC.yes {en : Nat} {p : Tok → Bool} {a b : Cmd} {ts : List Tok} {o : Out} (hp : hd p ts = true) (h : EvC en a ts o) : EvC en (.see p a b) ts o := ⟨h.1, h.2.elim fun f e => ⟨f, by simp only [runC, hp, if_true]; exact e⟩⟩
theorem EvC.nay {en : Nat} {p : Tok → Bool} {a b : Cmd} {ts : List Tok} {o : Out} (hp : hd p ts = false) (h : EvC en b ts o) : EvC en (.see p a b) ts o := ⟨h.1, h.2.elim fun f e => ⟨f, by simp only [runC, hp, Bool.false_eq_true, if_false]; exact e⟩⟩
theorem EvC.here {en : Nat} {k : Nat → Cmd} {ts : List Tok} {o : Out} (h : EvC en (k (place en ts)) ts o) : EvC en (.here k) ts o := ⟨h.1, h.2.elim fun f e => ⟨f, e⟩⟩
theorem EvC.take {en : Nat} {k : Tok → Cmd} {t : Tok} {r : List Tok} {o : Out} (h : EvC en (k t) r o) : EvC en (.take k) (t :: r) o := ⟨h.1, h.2.elim fun f e => ⟨f, e⟩⟩
theorem EvC.call {en : Nat} {s : Sym} {k : Ex → Cmd} {ts r : List Tok} {x : Ex} {o : Out} (h : Ev en s ts (.ok x r)) (h2 : EvC en (k x) r o) : EvC en (.call s k) ts o := by
  obtain ⟨ho, f, e⟩ := h
  obtain ⟨ho2, g, e2⟩ := h2
  refine ⟨ho2, max f g, ?_⟩
  have e3 : P en (max f g) s ts = .ok x r := by rw [P_mono en (Nat.le_max_left f g) s ts (by rw [e]; exact ho), e]
  simp only [runC, e3]
  rw [runP_mono en (Nat.le_max_right f g) (k x) r (by rw [e2]; exact ho2), e2]

/-! Other blanks. -/
theorem bd_nil (en : Nat) : Bd [] [] en true := ⟨fun _ => rfl, fun _ _ _ => rfl, rfl, rfl, rfl, rfl, Or.inl rfl, Or.inl rfl, Or.inl rfl⟩
theorem all_nil {o : Out} (h : o ≠ .out) : All [] true o := by
  cases o with
  | ok x r => exact Nat.zero_le _
  | no r => exact ⟨rfl, Nat.zero_le _⟩
  | lim p => exact ⟨rfl, rfl⟩
  | out => exact absurd rfl h
theorem parse_blanks {en en' : Nat} {ts us : List Tok} (h : SameL ts us) : OutR [] [] (parseO en ts) (parseO en' us) := by
  have := sim_P (en' := en') (bd_nil en) (ts.length * 10 + 20) (.decls 0 []) (.decls 0 []) ts us ⟨rfl, rfl⟩ ⟨ts, us, by simp, by simp, h⟩ (all_nil (parseO_ne en ts))
  unfold parseO
  rw [← h.len]
  exact this

/-! Behind a fault. -/
/-! Parentheses around a body. -/
/-! What is left is the end of what was there. -/
theorem run_suffix {en : Nat} {R : Sym → List Tok → Out} (h : ∀ s ts x r, R s ts = .ok x r → ∃ l, ts = l ++ r) : ∀ (c : Cmd) (ts : List Tok) (x : Ex) (r : List Tok), runC en R c ts = .ok x r → ∃ l, ts = l ++ r
  | .ret _, ts, _, _, e => by simp only [runC, Out.ok.injEq] at e; exact ⟨[], e.2⟩
  | .stop, _, _, _, e => by cases e
  | .lim _, _, _, _, e => by cases e
  | .see p a b, ts, x, r, e => by
    simp only [runC] at e
    split at e
    · exact run_suffix h a ts x r e
    · exact run_suffix h b ts x r e
  | .see2 p a b, ts, x, r, e => by
    simp only [runC] at e
    split at e
    · exact run_suffix h a ts x r e
    · exact run_suffix h b ts x r e
  | .here k, ts, x, r, e => run_suffix h (k _) ts x r e
  | .take _, [], _, _, e => by cases e
  | .take k, t :: q, x, r, e => by
    obtain ⟨l, e⟩ := run_suffix h (k t) q x r e
    exact ⟨t :: l, by rw [e]; rfl⟩
  | .call s k, ts, x, r, e => by
    simp only [runC] at e
    cases e2 : R s ts with
    | ok y q =>
      rw [e2] at e
      obtain ⟨l, h1⟩ := h s ts y q e2
      obtain ⟨m, h2⟩ := run_suffix h (k y) q x r e
      exact ⟨l ++ m, by rw [h1, h2, List.append_assoc]⟩
    | no q => rw [e2] at e; cases e
    | lim p => rw [e2] at e; cases e
    | out => rw [e2] at e; cases e
theorem P_suffix (en : Nat) : ∀ (f : Nat) (s : Sym) (ts : List Tok) (x : Ex) (r : List Tok), P en f s ts = .ok x r → ∃ l, ts = l ++ r
  | 0, _, _, _, _, e => by cases e
  | f + 1, s, ts, x, r, e => run_suffix (P_suffix en f) (body s) ts x r e
/-! What a program was read from. -/
theorem must_inv {en : Nat} {Rr : Sym → List Tok → Out} {s : List UInt8} {k : Tok → Cmd} {ts r : List Tok} {x : Ex} (h : runC en Rr (mustC s k) ts = .ok x r) : ∃ t q, ts = t :: q ∧ isT s t = true ∧ runC en Rr (k t) q = .ok x r := by
  unfold mustC at h
  simp only [runC] at h
  split at h
  · rename_i c
    cases ts with
    | nil => cases h
    | cons t q => exact ⟨t, q, rfl, c, h⟩
  · cases h
theorem call_inv {en f : Nat} {s : Sym} {k : Ex → Cmd} {ts r : List Tok} {x : Ex} (h : runC en (P en f) (.call s k) ts = .ok x r) : ∃ y q, P en f s ts = .ok y q ∧ runC en (P en f) (k y) q = .ok x r := by
  simp only [runC] at h
  cases e : P en f s ts with
  | ok y q => rw [e] at h; exact ⟨y, q, rfl, h⟩
  | no q => rw [e] at h; cases h
  | lim p => rw [e] at h; cases h
  | out => rw [e] at h; cases h
/-- A domain that was read. -/
theorem domC_inv {en f : Nat} {k : Ex → Cmd} {ts r : List Tok} {X : Ex} (h : runC en (P en f) (domC k) ts = .ok X r) : ∃ d q x e q2, ts = d :: q ∧ isT [100, 111, 109, 97, 105, 110] d = true ∧ P en f .seq q = .ok x (e :: q2) ∧ isT [101, 110, 100] e = true ∧ deepE x ≤ 60 ∧ runC en (P en f) (k x) q2 = .ok X r := by
  obtain ⟨d, q, e1, hd1, h⟩ := must_inv h
  obtain ⟨x, q1, hx, h⟩ := call_inv h
  obtain ⟨e, q2, e2, he, h⟩ := must_inv h
  split at h
  · cases h
  · rename_i c
    exact ⟨d, q, x, e, q2, e1, hd1, by rw [hx, e2], he, by omega, h⟩
theorem doms_inv (en : Nat) : ∀ (f : Nat) (ds es : List Ex) (l : List Tok) (X : Ex) (r : List Tok), P en f (.doms ds es) l = .ok X r → ∃ es', X = progE ds es' ∧ r = [] ∧ (es.length < es'.length ∨ (es' = es ∧ l = []))
  | 0, _, _, _, _, _, h => by cases h
  | f + 1, ds, es, l, X, r, h => by
    have go : ∀ (l : List Tok), runC en (P en f) (domC fun e => .call (.doms ds (es ++ [e])) .ret) l = .ok X r → ∃ es', X = progE ds es' ∧ r = [] ∧ (es.length < es'.length ∨ (es' = es ∧ l = [])) := by
      intro l h
      obtain ⟨d, q, x, e, q2, _, _, _, _, _, h⟩ := domC_inv h
      obtain ⟨Y, q3, hY, h⟩ := call_inv h
      simp only [runC, Out.ok.injEq] at h
      obtain ⟨rfl, rfl⟩ := h
      obtain ⟨es', h1, h2, h3⟩ := doms_inv en f ds (es ++ [x]) q2 _ _ hY
      refine ⟨es', h1, h2, Or.inl ?_⟩
      rw [List.length_append, List.length_singleton] at h3
      rcases h3 with h3 | ⟨h3, _⟩
      · omega
      · rw [h3]; simp
    have go2 : ∀ (l : List Tok), runC en (P en f) (if es.length = 3 then .see (isT [100, 111, 109, 97, 105, 110]) (.here .lim) (domC fun e => .call (.doms ds (es ++ [e])) .ret) else domC fun e => .call (.doms ds (es ++ [e])) .ret) l = .ok X r → ∃ es', X = progE ds es' ∧ r = [] ∧ (es.length < es'.length ∨ (es' = es ∧ l = [])) := by
      intro l h
      split at h
      · simp only [runC] at h
        split at h
        · cases h
        · exact go l h
      · exact go l h
    have h : runC en (P en f) (domsC ds es) l = .ok X r := h
    dsimp only [domsC] at h
    split at h
    · exact go2 l h
    · cases l with
      | nil =>
        simp only [runC, hd, Bool.false_eq_true, if_false, Out.ok.injEq] at h
        exact ⟨es, h.1.symm, h.2.symm, Or.inr ⟨rfl, rfl⟩⟩
      | cons t q => exact go2 _ h
theorem kind_inv {en : Nat} {Rr : Sym → List Tok → Out} {n : Nat} {k : Tok → Cmd} {ts r : List Tok} {x : Ex} (h : runC en Rr (kindC n k) ts = .ok x r) : ∃ t q, runC en Rr (k t) q = .ok x r := by
  unfold kindC at h
  simp only [runC] at h
  split at h
  · cases ts with
    | nil => cases h
    | cons t q => exact ⟨t, q, h⟩
  · cases h
theorem may_inv {en : Nat} {Rr : Sym → List Tok → Out} {s : List UInt8} {a b : Cmd} {ts r : List Tok} {x : Ex} (h : runC en Rr (mayC s a b) ts = .ok x r) : ∃ q, runC en Rr a q = .ok x r ∨ runC en Rr b q = .ok x r := by
  unfold mayC at h
  simp only [runC] at h
  split at h
  · cases ts with
    | nil => cases h
    | cons t q => exact ⟨q, Or.inl h⟩
  · exact ⟨ts, Or.inr h⟩
theorem first_inv {en : Nat} {Rr : Sym → List Tok → Out} {k : Int → Cmd} {ts r : List Tok} {x : Ex} (h : runC en Rr (firstC k) ts = .ok x r) : ∃ v q, runC en Rr (k v) q = .ok x r := by
  obtain ⟨_, q, _, _, h⟩ := must_inv h
  obtain ⟨q, h | h⟩ := may_inv h
  · obtain ⟨t, q, h⟩ := kind_inv h; exact ⟨_, q, h⟩
  · obtain ⟨t, q, h⟩ := kind_inv h; exact ⟨_, q, h⟩
theorem decl_inv {en : Nat} {Rr : Sym → List Tok → Out} {k : Ex → Cmd} {ts r : List Tok} {x : Ex} (h : runC en Rr (declC k) ts = .ok x r) : ∃ d q, runC en Rr (k d) q = .ok x r := by
  cases ts with
  | nil => cases h
  | cons t ts =>
    simp only [declC, runC] at h
    obtain ⟨n, q, h⟩ := kind_inv (show runC en Rr (kindC 1 _) ts = .ok x r from h)
    split at h
    · obtain ⟨v, q, h⟩ := first_inv h; exact ⟨_, q, h⟩
    · split at h
      · obtain ⟨v, q, h⟩ := first_inv h; exact ⟨_, q, h⟩
      · obtain ⟨u, q, h⟩ := kind_inv h
        split at h
        · cases h
        · exact ⟨_, q, h⟩
theorem decls_inv (en : Nat) : ∀ (f l : Nat) (ds : List Ex) (ts : List Tok) (X : Ex) (r : List Tok), P en f (.decls l ds) ts = .ok X r → ∃ ds' es', X = progE ds' es' ∧ r = [] ∧ (ds.length < ds'.length ∨ (ds' = ds ∧ ∃ g, P en g (.doms ds []) ts = .ok X r ∧ hd isDecl ts = false))
  | 0, _, _, _, _, _, h => by cases h
  | f + 1, l, ds, ts, X, r, h => by
    have h : runC en (P en f) (declsC l ds) ts = .ok X r := h
    unfold declsC at h
    simp only [runC] at h
    split at h
    · split at h
      · cases h
      · obtain ⟨d, q, h⟩ := decl_inv h
        split at h
        · cases h
        · obtain ⟨Y, q3, hY, h⟩ := call_inv h
          simp only [runC, Out.ok.injEq] at h
          obtain ⟨rfl, rfl⟩ := h
          obtain ⟨ds', es', h1, h2, h3⟩ := decls_inv en f _ _ _ _ _ hY
          refine ⟨ds', es', h1, h2, Or.inl ?_⟩
          rw [List.length_append, List.length_singleton] at h3
          rcases h3 with h3 | ⟨h3, _⟩
          · omega
          · rw [h3]; simp
    · rename_i c
      cases e : P en f (.doms ds []) ts with
      | ok Y q =>
        rw [e] at h
        simp only [Out.ok.injEq] at h
        obtain ⟨rfl, rfl⟩ := h
        obtain ⟨es', h1, h2, _⟩ := doms_inv en f ds [] ts _ _ e
        exact ⟨ds, es', h1, h2, Or.inr ⟨rfl, f, e, by simpa using c⟩⟩
      | no q => rw [e] at h; cases h
      | lim p => rw [e] at h; cases h
      | out => rw [e] at h; cases h
end Go.Proofs.YtkljakeccfnakaaGreatDoor

namespace Go.Proofs.YtkljakeccfnakaaGreatDoor

/-- How deep what a part is handed is. -/
def symDeep : Sym → Nat
  | .appL _ a => deepE a
  | .prodL _ a => deepE a
  | .sumL _ a => deepE a
  | _ => 0
/-- Is it a part of an expression? -/
def small' : Sym → Bool
  | .decls _ _ => false
  | .doms _ _ => false
  | _ => true
/-- Whatever is made within c is at most n deeper than the words that it takes are many. -/
inductive Dp : Nat → Cmd → Prop
  | ret {n : Nat} {x : Ex} : deepE x ≤ n → Dp n (.ret x)
  | stop (n : Nat) : Dp n .stop
  | lim (n p : Nat) : Dp n (.lim p)
  | see {n : Nat} {p : Tok → Bool} {a b : Cmd} : Dp n a → Dp n b → Dp n (.see p a b)
  | see2 {n : Nat} {p : Tok → Bool} {a b : Cmd} : Dp n a → Dp n b → Dp n (.see2 p a b)
  | here {n : Nat} {k : Nat → Cmd} : (∀ p, Dp n (k p)) → Dp n (.here k)
  | take {n : Nat} {k : Tok → Cmd} : (∀ t, Dp (n + 1) (k t)) → Dp n (.take k)
  | call {n : Nat} {s : Sym} {k : Ex → Cmd} : small' s = true → (∀ x, 1 ≤ deepE x → Dp (n + (deepE x - symDeep s)) (k x)) → Dp n (.call s k)
theorem deep_pos (x : Ex) : 1 ≤ deepE x := by cases x; simp only [deepE]; omega
theorem run_deep {en : Nat} {R : Sym → List Tok → Out} (hR : ∀ s ts x r, small' s = true → R s ts = .ok x r → deepE x + r.length ≤ symDeep s + ts.length) (hL : ∀ s ts x r, R s ts = .ok x r → r.length ≤ ts.length) {n : Nat} {c : Cmd} (hc : Dp n c) :
    ∀ {m : Nat} {ts : List Tok} {x : Ex} {r : List Tok}, n ≤ m → runC en R c ts = .ok x r → deepE x + r.length ≤ m + ts.length := by
  induction hc with
  | ret h => intro m ts x r hm e; simp only [runC, Out.ok.injEq] at e; obtain ⟨rfl, rfl⟩ := e; omega
  | stop => intro m ts x r _ e; cases e
  | lim => intro m ts x r _ e; cases e
  | see _ _ ha hb =>
    intro m ts x r hm e
    simp only [runC] at e
    split at e
    · exact ha hm e
    · exact hb hm e
  | see2 _ _ ha hb =>
    intro m ts x r hm e
    simp only [runC] at e
    split at e
    · exact ha hm e
    · exact hb hm e
  | here _ ih => intro m ts x r hm e; exact ih _ hm e
  | take _ ih =>
    intro m ts x r hm e
    cases ts with
    | nil => cases e
    | cons t q => have := ih t (m := m + 1) (by omega) e; rw [List.length_cons]; omega
  | @call n s k hs _ ih =>
    intro m ts x r hm e
    simp only [runC] at e
    cases e2 : R s ts with
    | ok y q =>
      rw [e2] at e
      have h1 := hR s ts y q hs e2
      have h3 := hL s ts y q e2
      have h2 := ih y (deep_pos y) (m := m + (deepE y - symDeep s)) (by omega) e
      omega
    | no q => rw [e2] at e; cases e
    | lim p => rw [e2] at e; cases e
    | out => rw [e2] at e; cases e
theorem dp_if {n : Nat} {p : Prop} [Decidable p] {a b : Cmd} (ha : Dp n a) (hb : Dp n b) : Dp n (if p then a else b) := by
  split
  · exact ha
  · exact hb
theorem dp_unitK {n : Nat} {k : Nat → Ex → Cmd} (h : ∀ q u, 1 ≤ deepE u → Dp (n + deepE u) (k q u)) : Dp n (unitK k) := .here fun q => .call rfl fun u hu => h q u hu
theorem kid0_deep (u : Ex) : deepE u.kid0 ≤ deepE u := by
  obtain ⟨k, t, o, n, p, l⟩ := u
  cases l with
  | nil => simp only [Ex.kid0, Ex.kids, List.headD, Ex.none, deepE, deepL]; omega
  | cons a r => simp only [Ex.kid0, Ex.kids, List.headD, deepE, deepL]; omega
theorem deep0 {k p n : Nat} {t o : List UInt8} {i : Int} (h : 1 ≤ n) : deepE (.mk k t o i p []) ≤ n := by simp only [deepE, deepL]; omega
theorem deep1 {k p n : Nat} {t o : List UInt8} {i : Int} {a : Ex} (h : deepE a + 1 ≤ n) : deepE (.mk k t o i p [a]) ≤ n := by simp only [deepE, deepL]; omega
theorem deep2 {k p n : Nat} {t o : List UInt8} {i : Int} {a b : Ex} (h : deepE a + 1 ≤ n) (h2 : deepE b + 1 ≤ n) : deepE (.mk k t o i p [a, b]) ≤ n := by simp only [deepE, deepL]; omega
theorem deep3 {k p n : Nat} {t o : List UInt8} {i : Int} {a b c : Ex} (h1 : 1 ≤ n) (h : deepE a ≤ n - 1) (h2 : deepE b ≤ n - 1) (h3 : deepE c ≤ n - 1) : deepE (.mk k t o i p [a, b, c]) ≤ n := by simp only [deepE, deepL]; omega
theorem put_deep {k p n : Nat} {t o : List UInt8} {i : Int} {u g : Ex} (h : deepE u + deepE g ≤ n) (hu : 1 ≤ deepE u) (hg : 1 ≤ deepE g) : deepE (.mk k t o i p [u.kid0, g]) ≤ n := by
  have := kid0_deep u
  simp only [deepE, deepL]; omega
theorem join_deep {k p : Nat} {t : List UInt8} {a b : Ex} : deepE (joinE k t p a b) = max (deepE a) (deepE b) + 1 := by simp only [joinE, deepE, deepL]; omega
theorem dp_body : ∀ s : Sym, small' s = true → Dp (symDeep s) (body s)
  | .seq, _ => by
    show Dp 0 seqC
    repeat first
      | exact Dp.stop _ | exact Dp.lim _ _
      | exact Dp.ret (by first | omega | (simp only [symDeep]; omega) | (simp only [symDeep]; rw [join_deep]; omega))
      | exact Dp.ret (deep0 (by first | omega | (simp only [symDeep]; omega) | (simp only [symDeep]; rw [join_deep]; omega)))
      | exact Dp.ret (deep1 (by first | omega | (simp only [symDeep]; omega) | (simp only [symDeep]; rw [join_deep]; omega)))
      | exact Dp.ret (put_deep (by first | omega | (simp only [symDeep]; omega) | (simp only [symDeep]; rw [join_deep]; omega)) (by assumption) (by assumption))
      | exact Dp.ret (deep2 (by first | omega | (simp only [symDeep]; omega) | (simp only [symDeep]; rw [join_deep]; omega)) (by first | omega | (simp only [symDeep]; omega) | (simp only [symDeep]; rw [join_deep]; omega)))
      | exact Dp.ret (deep3 (by first | omega | (simp only [symDeep]; omega) | (simp only [symDeep]; rw [join_deep]; omega)) (by first | omega | (simp only [symDeep]; omega) | (simp only [symDeep]; rw [join_deep]; omega)) (by first | omega | (simp only [symDeep]; omega) | (simp only [symDeep]; rw [join_deep]; omega)) (by first | omega | (simp only [symDeep]; omega) | (simp only [symDeep]; rw [join_deep]; omega)))
      | exact Dp.ret (deep3 (by first | omega | (simp only [symDeep]; omega) | (simp only [symDeep]; rw [join_deep]; omega)) (by first | omega | (simp only [symDeep]; omega) | (simp only [symDeep]; rw [join_deep]; omega)) (by first | omega | (simp only [symDeep]; omega) | (simp only [symDeep]; rw [join_deep]; omega)) (deep0 (by first | omega | (simp only [symDeep]; omega) | (simp only [symDeep]; rw [join_deep]; omega))))
      | exact Dp.ret (deep3 (by first | omega | (simp only [symDeep]; omega) | (simp only [symDeep]; rw [join_deep]; omega)) (by first | omega | (simp only [symDeep]; omega) | (simp only [symDeep]; rw [join_deep]; omega)) (deep0 (by first | omega | (simp only [symDeep]; omega) | (simp only [symDeep]; rw [join_deep]; omega))) (by first | omega | (simp only [symDeep]; omega) | (simp only [symDeep]; rw [join_deep]; omega)))
      | refine dp_unitK fun _ _ _ => ?_
      | refine dp_if ?_ ?_
      | refine Dp.see ?_ ?_ | refine Dp.see2 ?_ ?_ | refine Dp.here fun _ => ?_ | refine Dp.take fun _ => ?_
      | refine Dp.call rfl fun _ _ => ?_
  | .expr, _ => by
    show Dp 0 exprC
    repeat first
      | exact Dp.stop _ | exact Dp.lim _ _
      | exact Dp.ret (by first | omega | (simp only [symDeep]; omega) | (simp only [symDeep]; rw [join_deep]; omega))
      | exact Dp.ret (deep0 (by first | omega | (simp only [symDeep]; omega) | (simp only [symDeep]; rw [join_deep]; omega)))
      | exact Dp.ret (deep1 (by first | omega | (simp only [symDeep]; omega) | (simp only [symDeep]; rw [join_deep]; omega)))
      | exact Dp.ret (put_deep (by first | omega | (simp only [symDeep]; omega) | (simp only [symDeep]; rw [join_deep]; omega)) (by assumption) (by assumption))
      | exact Dp.ret (deep2 (by first | omega | (simp only [symDeep]; omega) | (simp only [symDeep]; rw [join_deep]; omega)) (by first | omega | (simp only [symDeep]; omega) | (simp only [symDeep]; rw [join_deep]; omega)))
      | exact Dp.ret (deep3 (by first | omega | (simp only [symDeep]; omega) | (simp only [symDeep]; rw [join_deep]; omega)) (by first | omega | (simp only [symDeep]; omega) | (simp only [symDeep]; rw [join_deep]; omega)) (by first | omega | (simp only [symDeep]; omega) | (simp only [symDeep]; rw [join_deep]; omega)) (by first | omega | (simp only [symDeep]; omega) | (simp only [symDeep]; rw [join_deep]; omega)))
      | exact Dp.ret (deep3 (by first | omega | (simp only [symDeep]; omega) | (simp only [symDeep]; rw [join_deep]; omega)) (by first | omega | (simp only [symDeep]; omega) | (simp only [symDeep]; rw [join_deep]; omega)) (by first | omega | (simp only [symDeep]; omega) | (simp only [symDeep]; rw [join_deep]; omega)) (deep0 (by first | omega | (simp only [symDeep]; omega) | (simp only [symDeep]; rw [join_deep]; omega))))
      | exact Dp.ret (deep3 (by first | omega | (simp only [symDeep]; omega) | (simp only [symDeep]; rw [join_deep]; omega)) (by first | omega | (simp only [symDeep]; omega) | (simp only [symDeep]; rw [join_deep]; omega)) (deep0 (by first | omega | (simp only [symDeep]; omega) | (simp only [symDeep]; rw [join_deep]; omega))) (by first | omega | (simp only [symDeep]; omega) | (simp only [symDeep]; rw [join_deep]; omega)))
      | refine dp_unitK fun _ _ _ => ?_
      | refine dp_if ?_ ?_
      | refine Dp.see ?_ ?_ | refine Dp.see2 ?_ ?_ | refine Dp.here fun _ => ?_ | refine Dp.take fun _ => ?_
      | refine Dp.call rfl fun _ _ => ?_
  | .unit, _ => by
    show Dp 0 (.see begins (.take unitT) .stop)
    repeat first
      | exact Dp.stop _ | exact Dp.lim _ _
      | exact Dp.ret (by first | omega | (simp only [symDeep]; omega) | (simp only [symDeep]; rw [join_deep]; omega))
      | exact Dp.ret (deep0 (by first | omega | (simp only [symDeep]; omega) | (simp only [symDeep]; rw [join_deep]; omega)))
      | exact Dp.ret (deep1 (by first | omega | (simp only [symDeep]; omega) | (simp only [symDeep]; rw [join_deep]; omega)))
      | exact Dp.ret (put_deep (by first | omega | (simp only [symDeep]; omega) | (simp only [symDeep]; rw [join_deep]; omega)) (by assumption) (by assumption))
      | exact Dp.ret (deep2 (by first | omega | (simp only [symDeep]; omega) | (simp only [symDeep]; rw [join_deep]; omega)) (by first | omega | (simp only [symDeep]; omega) | (simp only [symDeep]; rw [join_deep]; omega)))
      | exact Dp.ret (deep3 (by first | omega | (simp only [symDeep]; omega) | (simp only [symDeep]; rw [join_deep]; omega)) (by first | omega | (simp only [symDeep]; omega) | (simp only [symDeep]; rw [join_deep]; omega)) (by first | omega | (simp only [symDeep]; omega) | (simp only [symDeep]; rw [join_deep]; omega)) (by first | omega | (simp only [symDeep]; omega) | (simp only [symDeep]; rw [join_deep]; omega)))
      | exact Dp.ret (deep3 (by first | omega | (simp only [symDeep]; omega) | (simp only [symDeep]; rw [join_deep]; omega)) (by first | omega | (simp only [symDeep]; omega) | (simp only [symDeep]; rw [join_deep]; omega)) (by first | omega | (simp only [symDeep]; omega) | (simp only [symDeep]; rw [join_deep]; omega)) (deep0 (by first | omega | (simp only [symDeep]; omega) | (simp only [symDeep]; rw [join_deep]; omega))))
      | exact Dp.ret (deep3 (by first | omega | (simp only [symDeep]; omega) | (simp only [symDeep]; rw [join_deep]; omega)) (by first | omega | (simp only [symDeep]; omega) | (simp only [symDeep]; rw [join_deep]; omega)) (deep0 (by first | omega | (simp only [symDeep]; omega) | (simp only [symDeep]; rw [join_deep]; omega))) (by first | omega | (simp only [symDeep]; omega) | (simp only [symDeep]; rw [join_deep]; omega)))
      | refine dp_unitK fun _ _ _ => ?_
      | refine dp_if ?_ ?_
      | refine Dp.see ?_ ?_ | refine Dp.see2 ?_ ?_ | refine Dp.here fun _ => ?_ | refine Dp.take fun _ => ?_
      | refine Dp.call rfl fun _ _ => ?_
  | .appL p a, _ => by
    show Dp (deepE a) (body (.appL p a))
    have ha := deep_pos a
    repeat first
      | exact Dp.stop _ | exact Dp.lim _ _
      | exact Dp.ret (by first | omega | (simp only [symDeep]; omega) | (simp only [symDeep]; rw [join_deep]; omega))
      | exact Dp.ret (deep0 (by first | omega | (simp only [symDeep]; omega) | (simp only [symDeep]; rw [join_deep]; omega)))
      | exact Dp.ret (deep1 (by first | omega | (simp only [symDeep]; omega) | (simp only [symDeep]; rw [join_deep]; omega)))
      | exact Dp.ret (put_deep (by first | omega | (simp only [symDeep]; omega) | (simp only [symDeep]; rw [join_deep]; omega)) (by assumption) (by assumption))
      | exact Dp.ret (deep2 (by first | omega | (simp only [symDeep]; omega) | (simp only [symDeep]; rw [join_deep]; omega)) (by first | omega | (simp only [symDeep]; omega) | (simp only [symDeep]; rw [join_deep]; omega)))
      | exact Dp.ret (deep3 (by first | omega | (simp only [symDeep]; omega) | (simp only [symDeep]; rw [join_deep]; omega)) (by first | omega | (simp only [symDeep]; omega) | (simp only [symDeep]; rw [join_deep]; omega)) (by first | omega | (simp only [symDeep]; omega) | (simp only [symDeep]; rw [join_deep]; omega)) (by first | omega | (simp only [symDeep]; omega) | (simp only [symDeep]; rw [join_deep]; omega)))
      | exact Dp.ret (deep3 (by first | omega | (simp only [symDeep]; omega) | (simp only [symDeep]; rw [join_deep]; omega)) (by first | omega | (simp only [symDeep]; omega) | (simp only [symDeep]; rw [join_deep]; omega)) (by first | omega | (simp only [symDeep]; omega) | (simp only [symDeep]; rw [join_deep]; omega)) (deep0 (by first | omega | (simp only [symDeep]; omega) | (simp only [symDeep]; rw [join_deep]; omega))))
      | exact Dp.ret (deep3 (by first | omega | (simp only [symDeep]; omega) | (simp only [symDeep]; rw [join_deep]; omega)) (by first | omega | (simp only [symDeep]; omega) | (simp only [symDeep]; rw [join_deep]; omega)) (deep0 (by first | omega | (simp only [symDeep]; omega) | (simp only [symDeep]; rw [join_deep]; omega))) (by first | omega | (simp only [symDeep]; omega) | (simp only [symDeep]; rw [join_deep]; omega)))
      | refine dp_unitK fun _ _ _ => ?_
      | refine dp_if ?_ ?_
      | refine Dp.see ?_ ?_ | refine Dp.see2 ?_ ?_ | refine Dp.here fun _ => ?_ | refine Dp.take fun _ => ?_
      | refine Dp.call rfl fun _ _ => ?_
  | .prodL p a, _ => by
    show Dp (deepE a) (body (.prodL p a))
    have ha := deep_pos a
    repeat first
      | exact Dp.stop _ | exact Dp.lim _ _
      | exact Dp.ret (by first | omega | (simp only [symDeep]; omega) | (simp only [symDeep]; rw [join_deep]; omega))
      | exact Dp.ret (deep0 (by first | omega | (simp only [symDeep]; omega) | (simp only [symDeep]; rw [join_deep]; omega)))
      | exact Dp.ret (deep1 (by first | omega | (simp only [symDeep]; omega) | (simp only [symDeep]; rw [join_deep]; omega)))
      | exact Dp.ret (put_deep (by first | omega | (simp only [symDeep]; omega) | (simp only [symDeep]; rw [join_deep]; omega)) (by assumption) (by assumption))
      | exact Dp.ret (deep2 (by first | omega | (simp only [symDeep]; omega) | (simp only [symDeep]; rw [join_deep]; omega)) (by first | omega | (simp only [symDeep]; omega) | (simp only [symDeep]; rw [join_deep]; omega)))
      | exact Dp.ret (deep3 (by first | omega | (simp only [symDeep]; omega) | (simp only [symDeep]; rw [join_deep]; omega)) (by first | omega | (simp only [symDeep]; omega) | (simp only [symDeep]; rw [join_deep]; omega)) (by first | omega | (simp only [symDeep]; omega) | (simp only [symDeep]; rw [join_deep]; omega)) (by first | omega | (simp only [symDeep]; omega) | (simp only [symDeep]; rw [join_deep]; omega)))
      | exact Dp.ret (deep3 (by first | omega | (simp only [symDeep]; omega) | (simp only [symDeep]; rw [join_deep]; omega)) (by first | omega | (simp only [symDeep]; omega) | (simp only [symDeep]; rw [join_deep]; omega)) (by first | omega | (simp only [symDeep]; omega) | (simp only [symDeep]; rw [join_deep]; omega)) (deep0 (by first | omega | (simp only [symDeep]; omega) | (simp only [symDeep]; rw [join_deep]; omega))))
      | exact Dp.ret (deep3 (by first | omega | (simp only [symDeep]; omega) | (simp only [symDeep]; rw [join_deep]; omega)) (by first | omega | (simp only [symDeep]; omega) | (simp only [symDeep]; rw [join_deep]; omega)) (deep0 (by first | omega | (simp only [symDeep]; omega) | (simp only [symDeep]; rw [join_deep]; omega))) (by first | omega | (simp only [symDeep]; omega) | (simp only [symDeep]; rw [join_deep]; omega)))
      | refine dp_unitK fun _ _ _ => ?_
      | refine dp_if ?_ ?_
      | refine Dp.see ?_ ?_ | refine Dp.see2 ?_ ?_ | refine Dp.here fun _ => ?_ | refine Dp.take fun _ => ?_
      | refine Dp.call rfl fun _ _ => ?_
  | .sumL p a, _ => by
    show Dp (deepE a) (body (.sumL p a))
    have ha := deep_pos a
    repeat first
      | exact Dp.stop _ | exact Dp.lim _ _
      | exact Dp.ret (by first | omega | (simp only [symDeep]; omega) | (simp only [symDeep]; rw [join_deep]; omega))
      | exact Dp.ret (deep0 (by first | omega | (simp only [symDeep]; omega) | (simp only [symDeep]; rw [join_deep]; omega)))
      | exact Dp.ret (deep1 (by first | omega | (simp only [symDeep]; omega) | (simp only [symDeep]; rw [join_deep]; omega)))
      | exact Dp.ret (put_deep (by first | omega | (simp only [symDeep]; omega) | (simp only [symDeep]; rw [join_deep]; omega)) (by assumption) (by assumption))
      | exact Dp.ret (deep2 (by first | omega | (simp only [symDeep]; omega) | (simp only [symDeep]; rw [join_deep]; omega)) (by first | omega | (simp only [symDeep]; omega) | (simp only [symDeep]; rw [join_deep]; omega)))
      | exact Dp.ret (deep3 (by first | omega | (simp only [symDeep]; omega) | (simp only [symDeep]; rw [join_deep]; omega)) (by first | omega | (simp only [symDeep]; omega) | (simp only [symDeep]; rw [join_deep]; omega)) (by first | omega | (simp only [symDeep]; omega) | (simp only [symDeep]; rw [join_deep]; omega)) (by first | omega | (simp only [symDeep]; omega) | (simp only [symDeep]; rw [join_deep]; omega)))
      | exact Dp.ret (deep3 (by first | omega | (simp only [symDeep]; omega) | (simp only [symDeep]; rw [join_deep]; omega)) (by first | omega | (simp only [symDeep]; omega) | (simp only [symDeep]; rw [join_deep]; omega)) (by first | omega | (simp only [symDeep]; omega) | (simp only [symDeep]; rw [join_deep]; omega)) (deep0 (by first | omega | (simp only [symDeep]; omega) | (simp only [symDeep]; rw [join_deep]; omega))))
      | exact Dp.ret (deep3 (by first | omega | (simp only [symDeep]; omega) | (simp only [symDeep]; rw [join_deep]; omega)) (by first | omega | (simp only [symDeep]; omega) | (simp only [symDeep]; rw [join_deep]; omega)) (deep0 (by first | omega | (simp only [symDeep]; omega) | (simp only [symDeep]; rw [join_deep]; omega))) (by first | omega | (simp only [symDeep]; omega) | (simp only [symDeep]; rw [join_deep]; omega)))
      | refine dp_unitK fun _ _ _ => ?_
      | refine dp_if ?_ ?_
      | refine Dp.see ?_ ?_ | refine Dp.see2 ?_ ?_ | refine Dp.here fun _ => ?_ | refine Dp.take fun _ => ?_
      | refine Dp.call rfl fun _ _ => ?_
  | .decls _ _, h => by cases h
  | .doms _ _, h => by cases h
theorem P_deep (en : Nat) : ∀ (f : Nat) (s : Sym) (ts : List Tok) (x : Ex) (r : List Tok), small' s = true → P en f s ts = .ok x r → deepE x + r.length ≤ symDeep s + ts.length
  | 0, _, _, _, _, _, h => by cases h
  | f + 1, s, _, _, _, hs, h => run_deep (P_deep en f) (fun s ts x r e => by have := P_left en f s ts; rw [e] at this; exact this) (dp_body s hs) (Nat.le_refl _) h
end Go.Proofs.YtkljakeccfnakaaGreatDoor

namespace Go.Proofs.YtkljakeccfnakaaGreatDoor

/-! Places. -/
theorem lexT_parts {l : List UInt8} {ts : List Tok} (h : lexT l = .ok ts) : l.length ≤ 8192 ∧ lexA l 0 0 = .ok ts ∧ ts.length ≤ 1500 ∧ Gaps false l 0 ts := by
  have h2 := h
  unfold lexT at h2
  split at h2
  · cases h2
  · have h3 : lexA l 0 0 = .ok ts := h2
    have := lexA_count _ _ 0 0 ts (Nat.le_refl _) (by omega) h3
    exact ⟨by omega, h3, by omega, lexA_gaps _ _ _ _ _ _ (Nat.le_refl _) h3 (fun e => by cases e)⟩
/-! Limits are told at places of the text. -/
/-! Other blanks between the words. -/
end Go.Proofs.YtkljakeccfnakaaGreatDoor

namespace Go.Proofs.YtkljakeccfnakaaGreatDoor

end Go.Proofs.YtkljakeccfnakaaGreatDoor

namespace Go.Proofs.YtkljakeccfnakaaGreatDoor

theorem lex_good {l : List UInt8} {ts : List Tok} (h : lexT l = .ok ts) : ∀ t ∈ ts, Good t :=
  lexA_good _ _ _ _ _ (Nat.le_refl _) (lexT_parts h).2.1
end Go.Proofs.YtkljakeccfnakaaGreatDoor

namespace Go.Proofs.YtkljakeccfnakaaGreatDoor

def Kid12 (x : Ex) : Prop := x.kind = 12 → ∃ y, x.kids = [y]
def Skid12 : Sym → Prop
  | .appL _ a => Kid12 a
  | .prodL _ a => Kid12 a
  | .sumL _ a => Kid12 a
  | _ => True
inductive Gd : Cmd → Prop
  | ret {x : Ex} : Kid12 x → Gd (.ret x)
  | stop : Gd .stop
  | lim (p : Nat) : Gd (.lim p)
  | see {p : Tok → Bool} {a b : Cmd} : Gd a → Gd b → Gd (.see p a b)
  | see2 {p : Tok → Bool} {a b : Cmd} : Gd a → Gd b → Gd (.see2 p a b)
  | here {k : Nat → Cmd} : (∀ p, Gd (k p)) → Gd (.here k)
  | take {k : Tok → Cmd} : (∀ t, Gd (k t)) → Gd (.take k)
  | call {s : Sym} {k : Ex → Cmd} : Skid12 s → (∀ x, Kid12 x → Gd (k x)) → Gd (.call s k)
theorem run_gd {en : Nat} {R : Sym → List Tok → Out} (hR : ∀ s ts x r, Skid12 s → R s ts = .ok x r → Kid12 x) {c : Cmd} (hc : Gd c) : ∀ {ts r : List Tok} {x : Ex}, runC en R c ts = .ok x r → Kid12 x := by
  induction hc with
  | ret h => intro ts r x e; simp only [runC, Out.ok.injEq] at e; rw [← e.1]; exact h
  | stop => intro ts r x e; cases e
  | lim p => intro ts r x e; cases e
  | see _ _ ha hb =>
    intro ts r x e
    simp only [runC] at e
    split at e
    · exact ha e
    · exact hb e
  | see2 _ _ ha hb =>
    intro ts r x e
    simp only [runC] at e
    split at e
    · exact ha e
    · exact hb e
  | here _ ih => intro ts r x e; exact ih _ e
  | take _ ih =>
    intro ts r x e
    cases ts with
    | nil => cases e
    | cons t q => exact ih t e
  | @call s k hs _ ih =>
    intro ts r x e
    simp only [runC] at e
    cases e2 : R s ts with
    | ok y q => rw [e2] at e; exact ih y (hR s ts y q hs e2) e
    | no q => rw [e2] at e; cases e
    | lim p => rw [e2] at e; cases e
    | out => rw [e2] at e; cases e
theorem gd_if {p : Prop} [Decidable p] {a b : Cmd} (ha : Gd a) (hb : Gd b) : Gd (if p then a else b) := by
  split
  · exact ha
  · exact hb
theorem kid12_of {k : Nat} {t o : List UInt8} {n : Int} {p : Nat} {l : List Ex} (h : k ≠ 12) : Kid12 (.mk k t o n p l) := fun e => absurd e h
theorem kid12_at {t o : List UInt8} {n : Int} {p : Nat} {a : Ex} : Kid12 (.mk 12 t o n p [a]) := fun _ => ⟨a, rfl⟩
theorem gd_body : ∀ s : Sym, Skid12 s → Gd (body s) := by
  intro s hs
  cases s
  all_goals
    simp only [body, seqC, exprC, letC, choiceC, funC, matchC, storeT, pairsC, optionsC, noneArm, someArm, unitK, testC, sumK, prodK, mayC, mustC, kindC, nameC', declsC, domsC, domC, declC, firstC, joinE, Skid12] at hs ⊢
    repeat first
      | exact Gd.ret (by first | assumption | exact kid12_of (by decide) | exact kid12_at)
      | exact Gd.stop | exact Gd.lim _
      | refine gd_if ?_ ?_
      | refine Gd.see ?_ ?_ | refine Gd.see2 ?_ ?_ | refine Gd.here fun _ => ?_ | refine Gd.take fun _ => ?_
      | refine Gd.call (by first | trivial | assumption | exact kid12_of (by decide)) fun _ _ => ?_
      | (unfold unitT namedC insideC mayC mustC nameC' kindC)
theorem P_kid12 (en : Nat) : ∀ (f : Nat) (s : Sym) (ts : List Tok) (x : Ex) (r : List Tok), Skid12 s → P en f s ts = .ok x r → Kid12 x
  | 0, _, _, _, _, _, h => by cases h
  | f + 1, s, _, _, _, hs, h => run_gd (P_kid12 en f) (gd_body s hs) h
end Go.Proofs.YtkljakeccfnakaaGreatDoor
