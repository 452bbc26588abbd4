/-
  Readers of words, in plain Lean: what a reader does, told as a tree of tests and takings; no program is named here.
  There is fuel enough for every reader; no program is named here.
  Words that are the same but for places are read as the same; what stands behind does not matter where nobody looks; no program is named here.
  The parts of a program, over words that are the same but for places; no program is named here.
  Whole programs: other blanks, a fault, parentheses around a body; no program is named here.
  Nothing is deeper than the words that it was read from; no program is named here.
  Texts that laws put together: cut behind a fault, with other blanks; where limits are told. No program is named here.
  A body in two pairs of parentheses, as a text. No program is named here.
  What the laws of layer 5 say, of texts. No program is named here.
  A place of a row has its one kid.
-/
import Derived.Test.YtkljakeccfnakaaGreatDoorMm
import Derived.Test.YtkljakeccfnakaaGreatDoorUu
namespace Go.Proofs.YtkljakeccfnakaaGreatDoor

inductive Ex where
  | mk (kind : Nat) (text other : List UInt8) (n : Int) (pl : Nat) (kids : List Ex)
def Ex.kind : Ex → Nat | .mk k _ _ _ _ _ => k
def Ex.text : Ex → List UInt8 | .mk _ t _ _ _ _ => t
def Ex.other : Ex → List UInt8 | .mk _ _ o _ _ _ => o
def Ex.n : Ex → Int | .mk _ _ _ n _ _ => n
def Ex.pl : Ex → Nat | .mk _ _ _ _ p _ => p
def Ex.kids : Ex → List Ex | .mk _ _ _ _ _ l => l
def Ex.none : Ex := .mk 0 [] [] 0 0 []
def Ex.kid0 (e : Ex) : Ex := e.kids.headD Ex.none
mutual
/-- The places struck. -/
def er : Ex → Ex
  | .mk k t o n _ l => .mk k t o n 0 (erL l)
def erL : List Ex → List Ex
  | [] => []
  | e :: r => er e :: erL r
end
mutual
def deepE : Ex → Nat
  | .mk _ _ _ _ _ l => deepL l + 1
def deepL : List Ex → Nat
  | [] => 0
  | e :: r => max (deepE e) (deepL r)
end
inductive Sym where
  | seq | expr | unit
  | appL (pl : Nat) (a : Ex) | prodL (pl : Nat) (a : Ex) | sumL (pl : Nat) (a : Ex)
  | decls (locs : Nat) (ds : List Ex) | doms (ds es : List Ex)
inductive Cmd where
  | ret (x : Ex)
  | stop
  | lim (p : Nat)
  | see (p : Tok → Bool) (a b : Cmd)
  | see2 (p : Tok → Bool) (a b : Cmd)
  | here (k : Nat → Cmd)
  | take (k : Tok → Cmd)
  | call (s : Sym) (k : Ex → Cmd)
inductive Out where
  | ok (x : Ex) (r : List Tok)
  | no (r : List Tok)
  | lim (p : Nat)
  | out
def hd (p : Tok → Bool) : List Tok → Bool
  | [] => false
  | t :: _ => p t
def place (en : Nat) : List Tok → Nat
  | [] => en
  | t :: _ => t.pos
def runC (en : Nat) (R : Sym → List Tok → Out) : Cmd → List Tok → Out
  | .ret x, ts => .ok x ts
  | .stop, ts => .no ts
  | .lim p, _ => .lim p
  | .see p a b, ts => if hd p ts = true then runC en R a ts else runC en R b ts
  | .see2 p a b, ts => if hd p ts.tail = true then runC en R a ts else runC en R b ts
  | .here k, ts => runC en R (k (place en ts)) ts
  | .take _, [] => .no []
  | .take k, t :: r => runC en R (k t) r
  | .call s k, ts => match R s ts with
    | .ok x r => runC en R (k x) r
    | .no r => .no r
    | .lim p => .lim p
    | .out => .out

def isT (s : List UInt8) (t : Tok) : Bool := t.text == s
def isK (k : Nat) (t : Tok) : Bool := t.kind == k
/-- The words and signs that a unit may begin with. -/
def firstL : List (List UInt8) := [[33], [112, 114, 105, 110, 116], [115, 119, 97, 112], [97, 100, 100], [99, 97, 115], [115, 111, 109, 101], [110, 111, 110, 101], [116, 114, 117, 101], [102, 97, 108, 115, 101], [40]]
def begins (t : Tok) : Bool := firstL.contains t.text || t.kind == 1 || t.kind == 3

def mustC (s : List UInt8) (k : Tok → Cmd) : Cmd := .see (isT s) (.take k) .stop
def kindC (n : Nat) (k : Tok → Cmd) : Cmd := .see (isK n) (.take k) .stop
def nameC' (k : List UInt8 → Cmd) : Cmd := kindC 1 fun t => k t.text
def mayC (s : List UInt8) (a b : Cmd) : Cmd := .see (isT s) (.take fun _ => a) b

/-- A unit, and the place of what it is the left part of. -/
def unitK (k : Nat → Ex → Cmd) : Cmd := .here fun q => .call .unit fun u => k q u
def joinE (kind : Nat) (sign : List UInt8) (p : Nat) (a b : Ex) : Ex := .mk kind sign [] 0 p [a, b]
def prodK (p : Nat) (x : Ex) (k : Ex → Cmd) : Cmd := .call (.appL p x) fun a => .call (.prodL p a) k
def sumK (p : Nat) (x : Ex) (k : Ex → Cmd) : Cmd := prodK p x fun a => .call (.sumL p a) k
def testC (p : Nat) (x : Ex) : Cmd :=
  sumK p x fun l =>
    mayC [60] (unitK fun q u => sumK q u fun r => .ret (joinE 22 [] p l r))
    (mayC [61] (unitK fun q u => sumK q u fun r => .ret (joinE 23 [] p l r)) (.ret l))
def letC : Cmd := mustC [108, 101, 116] fun t => nameC' fun n => mustC [61] fun _ => .call .expr fun a => mustC [105, 110] fun _ => .call .seq fun b => .ret (.mk 5 n [] 0 t.pos [a, b])
def choiceC : Cmd := mustC [105, 102] fun t => .call .expr fun a => mustC [116, 104, 101, 110] fun _ => .call .expr fun b => mustC [101, 108, 115, 101] fun _ => .call .expr fun c => .ret (.mk 6 [] [] 0 t.pos [a, b, c])
def funC : Cmd := mustC [102, 117, 110] fun t => nameC' fun n => mustC [45, 62] fun _ => .call .expr fun a => .ret (.mk 7 n [] 0 t.pos [a])
def storeC : Cmd := .here fun p => nameC' fun n => mustC [58, 61] fun _ => .call .expr fun a => .ret (.mk 11 n [] 0 p [a])
/-- The same where a name is known to stand. -/
def storeT : Cmd := .here fun p => .take fun t => mustC [58, 61] fun _ => .call .expr fun a => .ret (.mk 11 t.text [] 0 p [a])
def pairsC (p : Nat) (x : Ex) : Cmd := nameC' fun a => mustC [44] fun _ => nameC' fun b => mustC [41] fun _ => mustC [45, 62] fun _ => .call .expr fun e => .ret (.mk 25 a b 0 p [x, e])
def noneArm (k : Ex → Cmd) : Cmd := mustC [45, 62] fun _ => .call .expr k
def someArm (k : List UInt8 → Ex → Cmd) : Cmd := nameC' fun n => mustC [45, 62] fun _ => .call .expr fun e => k n e
def unitE (p : Nat) : Ex := .mk 3 [] [] 0 p []
def optionsC (p : Nat) (x : Ex) : Cmd :=
  mayC [110, 111, 110, 101] (noneArm fun a => mayC [124] (mayC [115, 111, 109, 101] (someArm fun n b => .ret (.mk 24 n [] 3 p [x, a, b])) .stop) (.ret (.mk 24 [] [] 1 p [x, a, unitE p])))
  (mayC [115, 111, 109, 101] (someArm fun n b => mayC [124] (mayC [110, 111, 110, 101] (noneArm fun a => .ret (.mk 24 n [] 3 p [x, a, b])) .stop) (.ret (.mk 24 n [] 2 p [x, unitE p, b]))) .stop)
def matchC : Cmd := mustC [109, 97, 116, 99, 104] fun t => .call .expr fun x => mustC [119, 105, 116, 104] fun _ => mayC [40] (pairsC t.pos x) (optionsC t.pos x)
def exprC : Cmd :=
  .see (isT [108, 101, 116]) letC (.see (isT [105, 102]) choiceC (.see (isT [102, 117, 110]) funC (.see (isT [109, 97, 116, 99, 104]) matchC
  (.see (isK 1) (.see2 (isT [58, 61]) storeT (unitK fun q u => if u.kind = 12 then mayC [60, 45] (.call .expr fun g => .ret (.mk 13 u.text [] 0 q [u.kid0, g])) (testC q u) else testC q u))
    (unitK fun q u => testC q u)))))
def insideC (p : Nat) : Cmd := mayC [41] (.ret (.mk 3 [] [] 0 p [])) (.call .seq fun a => mayC [44] (.call .seq fun b => mustC [41] fun _ => .ret (.mk 20 [] [] 0 p [a, b])) (mustC [41] fun _ => .ret a))
def namedC (t : Tok) : Cmd := mayC [46, 91] (.call .expr fun a => mustC [93] fun _ => .ret (.mk 12 t.text [] 0 t.pos [a])) (.ret (.mk 4 t.text [] 0 t.pos []))
def unitT (t : Tok) : Cmd :=
  if t.text = [33] then nameC' fun n => .ret (.mk 10 n [] 0 t.pos [])
  else if t.text = [112, 114, 105, 110, 116] then .call .unit fun a => .ret (.mk 17 [] [] 0 t.pos [a])
  else if t.text = [115, 111, 109, 101] then .call .unit fun a => .ret (.mk 19 [] [] 0 t.pos [a])
  else if t.text = [115, 119, 97, 112] then nameC' fun n => .call .unit fun a => .ret (.mk 14 n [] 0 t.pos [a])
  else if t.text = [97, 100, 100] then nameC' fun n => .call .unit fun a => .ret (.mk 15 n [] 0 t.pos [a])
  else if t.text = [99, 97, 115] then nameC' fun n => .call .unit fun a => .call .unit fun b => .ret (.mk 16 n [] 0 t.pos [a, b])
  else if t.text = [110, 111, 110, 101] then .ret (.mk 18 [] [] 0 t.pos [])
  else if t.text = [116, 114, 117, 101] then .ret (.mk 2 [] [] 1 t.pos [])
  else if t.text = [102, 97, 108, 115, 101] then .ret (.mk 2 [] [] 0 t.pos [])
  else if t.text = [40] then insideC t.pos
  else if t.kind = 3 then .ret (.mk 1 [] [] t.val t.pos [])
  else namedC t
def seqC : Cmd := .here fun p => .call .expr fun e => mayC [59] (.call .seq fun g => .ret (.mk 9 [] [] 0 p [e, g])) (.ret e)
/-- A declaration as an expression: its kind, name, number and place. -/
def firstC (k : Int → Cmd) : Cmd := mustC [61] fun _ => mayC [45] (kindC 3 fun t => k (-(t.val : Int))) (kindC 3 fun t => k (t.val : Int))
def declC (k : Ex → Cmd) : Cmd := .take fun t => nameC' fun n =>
  if t.text = [99, 101, 108, 108] then firstC fun v => k (.mk 1 n [] v t.pos [])
  else if t.text = [97, 116, 111, 109] then firstC fun v => k (.mk 2 n [] v t.pos [])
  else kindC 3 fun u => if u.val < 1 ∨ 8 < u.val then .lim u.pos else k (.mk 3 n [] u.val t.pos [])
def sizeE (d : Ex) : Nat := if d.kind = 3 then d.n.toNat else 1
def isDecl (t : Tok) : Bool := isT [99, 101, 108, 108] t || isT [97, 116, 111, 109] t || isT [114, 111, 119] t
def progE (ds es : List Ex) : Ex := .mk 100 [] [] ds.length 0 (ds ++ es)
def domC (k : Ex → Cmd) : Cmd := mustC [100, 111, 109, 97, 105, 110] fun t => .call .seq fun e => mustC [101, 110, 100] fun _ => if 60 < deepE e then .lim t.pos else k e
def domsC (ds es : List Ex) : Cmd :=
  let go : Cmd := domC fun e => .call (.doms ds (es ++ [e])) .ret
  let go2 : Cmd := if es.length = 3 then .see (isT [100, 111, 109, 97, 105, 110]) (.here .lim) go else go
  if es.length = 0 then go2 else .see (fun _ => true) go2 (.ret (progE ds es))
def declsC (locs : Nat) (ds : List Ex) : Cmd :=
  .see isDecl (if ds.length = 8 then .here .lim else declC fun d => if 16 < locs + sizeE d then .lim d.pl else .call (.decls (locs + sizeE d) (ds ++ [d])) .ret) (.call (.doms ds []) .ret)
def body : Sym → Cmd
  | .seq => seqC
  | .expr => exprC
  | .unit => .see begins (.take unitT) .stop
  | .appL p a => .see begins (.call .unit fun u => .call (.appL p (joinE 8 [] p a u)) .ret) (.ret a)
  | .prodL p a => .see (fun t => isT [42] t || isT [47] t) (.take fun t => unitK fun q u => .call (.appL q u) fun b => .call (.prodL p (joinE 21 t.text p a b)) .ret) (.ret a)
  | .sumL p a => .see (fun t => isT [43] t || isT [45] t) (.take fun t => unitK fun q u => prodK q u fun b => .call (.sumL p (joinE 21 t.text p a b)) .ret) (.ret a)
  | .decls locs ds => declsC locs ds
  | .doms ds es => domsC ds es
def P (en : Nat) : Nat → Sym → List Tok → Out
  | 0, _, _ => .out
  | f + 1, s, ts => runC en (P en f) (body s) ts

/-! Fuel does not matter. -/
/-! What is left is a part of what was there. -/
def Out.Left (o : Out) (n : Nat) : Prop := match o with | .ok _ r => r.length ≤ n | .no r => r.length ≤ n | _ => True
theorem Out.Left.mono {o : Out} {n m : Nat} (h : o.Left n) (hm : n ≤ m) : o.Left m := by
  cases o <;> simp only [Out.Left] at * <;> omega
theorem run_left {en : Nat} {R : Sym → List Tok → Out} (h : ∀ s ts, (R s ts).Left ts.length) : ∀ (c : Cmd) (ts : List Tok), (runC en R c ts).Left ts.length
  | .ret _, _ => Nat.le_refl _
  | .stop, _ => Nat.le_refl _
  | .lim _, _ => trivial
  | .see p a b, ts => by
    simp only [runC]
    split
    · exact run_left h a ts
    · exact run_left h b ts
  | .see2 p a b, ts => by
    simp only [runC]
    split
    · exact run_left h a ts
    · exact run_left h b ts
  | .here k, ts => run_left h (k _) ts
  | .take k, [] => Nat.le_refl _
  | .take k, t :: r => (run_left h (k t) r).mono (Nat.le_succ _)
  | .call s k, ts => by
    have := h s ts
    simp only [runC]
    cases e : R s ts with
    | ok x r => rw [e] at this; exact (run_left h (k x) r).mono this
    | no r => rw [e] at this; exact this
    | lim p => trivial
    | out => trivial
theorem P_left (en : Nat) : ∀ (f : Nat) (s : Sym) (ts : List Tok), (P en f s ts).Left ts.length
  | 0, _, _ => trivial
  | f + 1, s, ts => run_left (P_left en f) (body s) ts

/-! There is fuel enough. -/
def eats : Sym → Bool
  | .unit => true
  | .expr => true
  | .seq => true
  | _ => false
def rank : Sym → Nat
  | .unit => 1
  | .appL _ _ => 2
  | .prodL _ _ => 3
  | .sumL _ _ => 4
  | .expr => 5
  | .seq => 6
  | .doms _ _ => 7
  | .decls _ _ => 8
/-- Whoever comes to an answer has taken something. -/
inductive Eat : Cmd → Prop
  | stop : Eat .stop
  | lim (p : Nat) : Eat (.lim p)
  | see {p : Tok → Bool} {a b : Cmd} : Eat a → Eat b → Eat (.see p a b)
  | see2 {p : Tok → Bool} {a b : Cmd} : Eat a → Eat b → Eat (.see2 p a b)
  | here {k : Nat → Cmd} : (∀ p, Eat (k p)) → Eat (.here k)
  | take (k : Tok → Cmd) : Eat (.take k)
  | call {s : Sym} {k : Ex → Cmd} : eats s = true → Eat (.call s k)
theorem run_eat {en : Nat} {R : Sym → List Tok → Out} (hl : ∀ s ts, (R s ts).Left ts.length) (h : ∀ s ts x r, eats s = true → R s ts = .ok x r → r.length < ts.length) {c : Cmd} (hc : Eat c) : ∀ {ts r : List Tok} {x : Ex}, runC en R c ts = .ok x r → r.length < ts.length := by
  induction hc with
  | stop => intro ts r x e; cases e
  | lim p => intro ts r x e; cases e
  | see _ _ ha hb =>
    intro ts r x e
    simp only [runC] at e
    split at e
    · exact ha e
    · exact hb e
  | see2 _ _ ha hb =>
    intro ts r x e
    simp only [runC] at e
    split at e
    · exact ha e
    · exact hb e
  | here _ ih => intro ts r x e; exact ih _ e
  | take k =>
    intro ts r x e
    cases ts with
    | nil => cases e
    | cons t q => have := run_left (en := en) hl (k t) q; simp only [runC] at e; rw [e] at this; simp only [Out.Left] at this; simp; omega
  | @call s k hs =>
    intro ts r x e
    simp only [runC] at e
    cases e2 : R s ts with
    | ok y q => rw [e2] at e; have a1 := h s ts y q hs e2; have := run_left (en := en) hl (k y) q; simp only at e; rw [e] at this; simp only [Out.Left] at this; omega
    | no q => rw [e2] at e; cases e
    | lim p => rw [e2] at e; cases e
    | out => rw [e2] at e; cases e
end Go.Proofs.YtkljakeccfnakaaGreatDoor

namespace Go.Proofs.YtkljakeccfnakaaGreatDoor

theorem eats_body : ∀ s, eats s = true → Eat (body s)
  | .seq, _ => .here fun _ => .call rfl
  | .unit, _ => .see (.take _) .stop
  | .expr, _ => .see (.see (.take _) .stop) (.see (.see (.take _) .stop) (.see (.see (.take _) .stop) (.see (.see (.take _) .stop) (.see (.see2 (.here fun _ => .take _) (.here fun _ => .call rfl)) (.here fun _ => .call rfl)))))
  | .appL _ _, h => by cases h
  | .prodL _ _, h => by cases h
  | .sumL _ _, h => by cases h
  | .decls _ _, h => by cases h
  | .doms _ _, h => by cases h
theorem P_eat (en : Nat) : ∀ (f : Nat) (s : Sym) (ts : List Tok) (x : Ex) (r : List Tok), eats s = true → P en f s ts = .ok x r → r.length < ts.length
  | 0, _, _, _, _, _, h => by cases h
  | f + 1, s, _, _, _, hs, h => run_eat (P_left en f) (fun s ts x r => P_eat en f s ts x r) (eats_body s hs) h

/-- Calls ahead of a taking go to parts of a lower rank. -/
inductive Fit : Nat → Cmd → Prop
  | ret (n : Nat) (x : Ex) : Fit n (.ret x)
  | stop (n : Nat) : Fit n .stop
  | lim (n p : Nat) : Fit n (.lim p)
  | see {n : Nat} {p : Tok → Bool} {a b : Cmd} : Fit n a → Fit n b → Fit n (.see p a b)
  | see2 {n : Nat} {p : Tok → Bool} {a b : Cmd} : Fit n a → Fit n b → Fit n (.see2 p a b)
  | here {n : Nat} {k : Nat → Cmd} : (∀ p, Fit n (k p)) → Fit n (.here k)
  | take {n : Nat} {k : Tok → Cmd} : (∀ t, Fit 9 (k t)) → Fit n (.take k)
  | eat {n : Nat} {s : Sym} {k : Ex → Cmd} : rank s < n → eats s = true → (∀ x, Fit 9 (k x)) → Fit n (.call s k)
  | call {n : Nat} {s : Sym} {k : Ex → Cmd} : rank s < n → (∀ x, Fit n (k x)) → Fit n (.call s k)
theorem run_fuel {en f : Nat} (hf : ∀ s (ts : List Tok), ts.length * 10 + rank s < f → P en f s ts ≠ .out) {n : Nat} {c : Cmd} (hc : Fit n c) :
    ∀ {ts : List Tok}, ts.length * 10 + n ≤ f → runC en (P en f) c ts ≠ .out := by
  induction hc with
  | ret => intro ts _ h; cases h
  | stop => intro ts _ h; cases h
  | lim => intro ts _ h; cases h
  | see _ _ ha hb =>
    intro ts h4
    simp only [runC]
    split
    · exact ha h4
    · exact hb h4
  | see2 _ _ ha hb =>
    intro ts h4
    simp only [runC]
    split
    · exact ha h4
    · exact hb h4
  | here _ ih => intro ts h4; exact ih _ h4
  | take _ ih =>
    intro ts h4
    cases ts with
    | nil => intro h; cases h
    | cons t r =>
      rw [List.length_cons] at h4
      exact ih t (by omega)
  | @eat n s k hr he _ ih =>
    intro ts h4
    have h := hf s ts (by omega)
    simp only [runC]
    cases e : P en f s ts with
    | ok x r =>
      have := P_eat en f s ts x r he e
      exact ih x (by omega)
    | no r => intro h; cases h
    | lim p => intro h; cases h
    | out => exact absurd e h
  | @call n s k hr _ ih =>
    intro ts h4
    have h := hf s ts (by omega)
    simp only [runC]
    cases e : P en f s ts with
    | ok x r =>
      have := P_left en f s ts
      rw [e] at this
      simp only [Out.Left] at this
      exact ih x (by omega)
    | no r => intro h; cases h
    | lim p => intro h; cases h
    | out => exact absurd e h
theorem store_eq {en : Nat} {Rr : Sym → List Tok → Out} {ts : List Tok} (h : hd (isK 1) ts = true) : runC en Rr storeC ts = runC en Rr storeT ts := by
  cases ts with
  | nil => cases h
  | cons t r => simp [storeC, storeT, nameC', kindC, runC, h]
theorem fit_if {n : Nat} {p : Prop} [Decidable p] {a b : Cmd} (ha : Fit n a) (hb : Fit n b) : Fit n (if p then a else b) := by
  split
  · exact ha
  · exact hb
theorem fit_unitK {n : Nat} {k : Nat → Ex → Cmd} (h1 : 1 < n) (hk : ∀ q u, Fit 9 (k q u)) : Fit n (unitK k) := .here fun q => .eat h1 rfl fun u => hk q u
theorem fit_body : ∀ s : Sym, Fit (rank s) (body s)
  | .seq => by
    show Fit 6 seqC
    repeat first
      | exact Fit.ret _ _ | exact Fit.stop _ | exact Fit.lim _ _
      | refine fit_unitK (by omega) fun _ _ => ?_
      | refine fit_if ?_ ?_
      | refine Fit.see ?_ ?_ | refine Fit.see2 ?_ ?_ | refine Fit.here fun _ => ?_ | refine Fit.take fun _ => ?_
      | refine Fit.eat (by simp [rank]) rfl fun _ => ?_ | refine Fit.call (by simp [rank]) fun _ => ?_
  | .expr => by
    show Fit 5 exprC
    repeat first
      | exact Fit.ret _ _ | exact Fit.stop _ | exact Fit.lim _ _
      | refine fit_unitK (by omega) fun _ _ => ?_
      | refine fit_if ?_ ?_
      | refine Fit.see ?_ ?_ | refine Fit.see2 ?_ ?_ | refine Fit.here fun _ => ?_ | refine Fit.take fun _ => ?_
      | refine Fit.eat (by simp [rank]) rfl fun _ => ?_ | refine Fit.call (by simp [rank]) fun _ => ?_
  | .unit => by
    show Fit 1 (.see begins (.take unitT) .stop)
    repeat first
      | exact Fit.ret _ _ | exact Fit.stop _ | exact Fit.lim _ _
      | refine fit_unitK (by omega) fun _ _ => ?_
      | refine fit_if ?_ ?_
      | refine Fit.see ?_ ?_ | refine Fit.see2 ?_ ?_ | refine Fit.here fun _ => ?_ | refine Fit.take fun _ => ?_
      | refine Fit.eat (by simp [rank]) rfl fun _ => ?_ | refine Fit.call (by simp [rank]) fun _ => ?_
  | .appL p a => by
    show Fit 2 (.see begins (.call .unit fun u => .call (.appL p (joinE 8 [] p a u)) .ret) (.ret a))
    repeat first
      | exact Fit.ret _ _ | exact Fit.stop _ | exact Fit.lim _ _
      | refine fit_unitK (by omega) fun _ _ => ?_
      | refine fit_if ?_ ?_
      | refine Fit.see ?_ ?_ | refine Fit.see2 ?_ ?_ | refine Fit.here fun _ => ?_ | refine Fit.take fun _ => ?_
      | refine Fit.eat (by simp [rank]) rfl fun _ => ?_ | refine Fit.call (by simp [rank]) fun _ => ?_
  | .prodL p a => by
    show Fit 3 (body (.prodL p a))
    repeat first
      | exact Fit.ret _ _ | exact Fit.stop _ | exact Fit.lim _ _
      | refine fit_unitK (by omega) fun _ _ => ?_
      | refine fit_if ?_ ?_
      | refine Fit.see ?_ ?_ | refine Fit.see2 ?_ ?_ | refine Fit.here fun _ => ?_ | refine Fit.take fun _ => ?_
      | refine Fit.eat (by simp [rank]) rfl fun _ => ?_ | refine Fit.call (by simp [rank]) fun _ => ?_
  | .sumL p a => by
    show Fit 4 (body (.sumL p a))
    repeat first
      | exact Fit.ret _ _ | exact Fit.stop _ | exact Fit.lim _ _
      | refine fit_unitK (by omega) fun _ _ => ?_
      | refine fit_if ?_ ?_
      | refine Fit.see ?_ ?_ | refine Fit.see2 ?_ ?_ | refine Fit.here fun _ => ?_ | refine Fit.take fun _ => ?_
      | refine Fit.eat (by simp [rank]) rfl fun _ => ?_ | refine Fit.call (by simp [rank]) fun _ => ?_
  | .decls l ds => by
    show Fit 8 (declsC l ds)
    repeat first
      | exact Fit.ret _ _ | exact Fit.stop _ | exact Fit.lim _ _
      | refine fit_unitK (by omega) fun _ _ => ?_
      | refine fit_if ?_ ?_
      | refine Fit.see ?_ ?_ | refine Fit.see2 ?_ ?_ | refine Fit.here fun _ => ?_ | refine Fit.take fun _ => ?_
      | refine Fit.eat (by simp [rank]) rfl fun _ => ?_ | refine Fit.call (by simp [rank]) fun _ => ?_
  | .doms ds es => by
    show Fit 7 (domsC ds es)
    repeat first
      | exact Fit.ret _ _ | exact Fit.stop _ | exact Fit.lim _ _
      | refine fit_unitK (by omega) fun _ _ => ?_
      | refine fit_if ?_ ?_
      | refine Fit.see ?_ ?_ | refine Fit.see2 ?_ ?_ | refine Fit.here fun _ => ?_ | refine Fit.take fun _ => ?_
      | refine Fit.eat (by simp [rank]) rfl fun _ => ?_ | refine Fit.call (by simp [rank]) fun _ => ?_
theorem P_fuel (en : Nat) : ∀ (f : Nat) (s : Sym) (ts : List Tok), ts.length * 10 + rank s < f → P en f s ts ≠ .out
  | 0, _, _, h => by omega
  | f + 1, s, ts, h => run_fuel (fun s ts h => P_fuel en f s ts h) (fit_body s) (by omega)
end Go.Proofs.YtkljakeccfnakaaGreatDoor

namespace Go.Proofs.YtkljakeccfnakaaGreatDoor

section
variable (S1 S2 : List Tok) (en en' : Nat) (q : Bool)
/-- What is asked about. -/
def All (o : Out) : Prop := match o with
  | .ok _ r => S1.length ≤ r.length
  | .no r => q = true ∧ S1.length ≤ r.length
  | .lim _ => q = true ∧ S1 = []
  | .out => False
variable {S1 S2 en en' q}
variable (S1 S2 en q) in
section
end
end
end Go.Proofs.YtkljakeccfnakaaGreatDoor

namespace Go.Proofs.YtkljakeccfnakaaGreatDoor

section
variable {S1 S2 : List Tok} {en en' : Nat} {q : Bool}
end
end Go.Proofs.YtkljakeccfnakaaGreatDoor

namespace Go.Proofs.YtkljakeccfnakaaGreatDoor

/-- What comes of all words. -/
def parseO (en : Nat) (ts : List Tok) : Out := P en (ts.length * 10 + 20) (.decls 0 []) ts
theorem parseO_ne (en : Nat) (ts : List Tok) : parseO en ts ≠ .out := P_fuel en _ _ _ (by simp only [rank]; omega)
/-! Other blanks. -/
/-! Behind a fault. -/
/-! Parentheses around a body. -/
/-! What is left is the end of what was there. -/
/-! What a program was read from. -/
end Go.Proofs.YtkljakeccfnakaaGreatDoor

namespace Go.Proofs.YtkljakeccfnakaaGreatDoor

/-- How deep what a part is handed is. -/
def symDeep : Sym → Nat
  | .appL _ a => deepE a
  | .prodL _ a => deepE a
  | .sumL _ a => deepE a
  | _ => 0
/-- Is it a part of an expression? -/
def small' : Sym → Bool
  | .decls _ _ => false
  | .doms _ _ => false
  | _ => true
/-- Whatever is made within c is at most n deeper than the words that it takes are many. -/
inductive Dp : Nat → Cmd → Prop
  | ret {n : Nat} {x : Ex} : deepE x ≤ n → Dp n (.ret x)
  | stop (n : Nat) : Dp n .stop
  | lim (n p : Nat) : Dp n (.lim p)
  | see {n : Nat} {p : Tok → Bool} {a b : Cmd} : Dp n a → Dp n b → Dp n (.see p a b)
  | see2 {n : Nat} {p : Tok → Bool} {a b : Cmd} : Dp n a → Dp n b → Dp n (.see2 p a b)
  | here {n : Nat} {k : Nat → Cmd} : (∀ p, Dp n (k p)) → Dp n (.here k)
  | take {n : Nat} {k : Tok → Cmd} : (∀ t, Dp (n + 1) (k t)) → Dp n (.take k)
  | call {n : Nat} {s : Sym} {k : Ex → Cmd} : small' s = true → (∀ x, 1 ≤ deepE x → Dp (n + (deepE x - symDeep s)) (k x)) → Dp n (.call s k)
theorem deep_pos (x : Ex) : 1 ≤ deepE x := by cases x; simp only [deepE]; omega
theorem run_deep {en : Nat} {R : Sym → List Tok → Out} (hR : ∀ s ts x r, small' s = true → R s ts = .ok x r → deepE x + r.length ≤ symDeep s + ts.length) (hL : ∀ s ts x r, R s ts = .ok x r → r.length ≤ ts.length) {n : Nat} {c : Cmd} (hc : Dp n c) :
    ∀ {m : Nat} {ts : List Tok} {x : Ex} {r : List Tok}, n ≤ m → runC en R c ts = .ok x r → deepE x + r.length ≤ m + ts.length := by
  induction hc with
  | ret h => intro m ts x r hm e; simp only [runC, Out.ok.injEq] at e; obtain ⟨rfl, rfl⟩ := e; omega
  | stop => intro m ts x r _ e; cases e
  | lim => intro m ts x r _ e; cases e
  | see _ _ ha hb =>
    intro m ts x r hm e
    simp only [runC] at e
    split at e
    · exact ha hm e
    · exact hb hm e
  | see2 _ _ ha hb =>
    intro m ts x r hm e
    simp only [runC] at e
    split at e
    · exact ha hm e
    · exact hb hm e
  | here _ ih => intro m ts x r hm e; exact ih _ hm e
  | take _ ih =>
    intro m ts x r hm e
    cases ts with
    | nil => cases e
    | cons t q => have := ih t (m := m + 1) (by omega) e; rw [List.length_cons]; omega
  | @call n s k hs _ ih =>
    intro m ts x r hm e
    simp only [runC] at e
    cases e2 : R s ts with
    | ok y q =>
      rw [e2] at e
      have h1 := hR s ts y q hs e2
      have h3 := hL s ts y q e2
      have h2 := ih y (deep_pos y) (m := m + (deepE y - symDeep s)) (by omega) e
      omega
    | no q => rw [e2] at e; cases e
    | lim p => rw [e2] at e; cases e
    | out => rw [e2] at e; cases e
theorem dp_if {n : Nat} {p : Prop} [Decidable p] {a b : Cmd} (ha : Dp n a) (hb : Dp n b) : Dp n (if p then a else b) := by
  split
  · exact ha
  · exact hb
theorem dp_unitK {n : Nat} {k : Nat → Ex → Cmd} (h : ∀ q u, 1 ≤ deepE u → Dp (n + deepE u) (k q u)) : Dp n (unitK k) := .here fun q => .call rfl fun u hu => h q u hu
theorem kid0_deep (u : Ex) : deepE u.kid0 ≤ deepE u := by
  obtain ⟨k, t, o, n, p, l⟩ := u
  cases l with
  | nil => simp only [Ex.kid0, Ex.kids, List.headD, Ex.none, deepE, deepL]; omega
  | cons a r => simp only [Ex.kid0, Ex.kids, List.headD, deepE, deepL]; omega
theorem deep0 {k p n : Nat} {t o : List UInt8} {i : Int} (h : 1 ≤ n) : deepE (.mk k t o i p []) ≤ n := by simp only [deepE, deepL]; omega
theorem deep1 {k p n : Nat} {t o : List UInt8} {i : Int} {a : Ex} (h : deepE a + 1 ≤ n) : deepE (.mk k t o i p [a]) ≤ n := by simp only [deepE, deepL]; omega
theorem deep2 {k p n : Nat} {t o : List UInt8} {i : Int} {a b : Ex} (h : deepE a + 1 ≤ n) (h2 : deepE b + 1 ≤ n) : deepE (.mk k t o i p [a, b]) ≤ n := by simp only [deepE, deepL]; omega
theorem deep3 {k p n : Nat} {t o : List UInt8} {i : Int} {a b c : Ex} (h1 : 1 ≤ n) (h : deepE a ≤ n - 1) (h2 : deepE b ≤ n - 1) (h3 : deepE c ≤ n - 1) : deepE (.mk k t o i p [a, b, c]) ≤ n := by simp only [deepE, deepL]; omega
theorem put_deep {k p n : Nat} {t o : List UInt8} {i : Int} {u g : Ex} (h : deepE u + deepE g ≤ n) (hu : 1 ≤ deepE u) (hg : 1 ≤ deepE g) : deepE (.mk k t o i p [u.kid0, g]) ≤ n := by
  have := kid0_deep u
  simp only [deepE, deepL]; omega
theorem join_deep {k p : Nat} {t : List UInt8} {a b : Ex} : deepE (joinE k t p a b) = max (deepE a) (deepE b) + 1 := by simp only [joinE, deepE, deepL]; omega
theorem dp_body : ∀ s : Sym, small' s = true → Dp (symDeep s) (body s)
  | .seq, _ => by
    show Dp 0 seqC
    repeat first
      | exact Dp.stop _ | exact Dp.lim _ _
      | exact Dp.ret (by first | omega | (simp only [symDeep]; omega) | (simp only [symDeep]; rw [join_deep]; omega))
      | exact Dp.ret (deep0 (by first | omega | (simp only [symDeep]; omega) | (simp only [symDeep]; rw [join_deep]; omega)))
      | exact Dp.ret (deep1 (by first | omega | (simp only [symDeep]; omega) | (simp only [symDeep]; rw [join_deep]; omega)))
      | exact Dp.ret (put_deep (by first | omega | (simp only [symDeep]; omega) | (simp only [symDeep]; rw [join_deep]; omega)) (by assumption) (by assumption))
      | exact Dp.ret (deep2 (by first | omega | (simp only [symDeep]; omega) | (simp only [symDeep]; rw [join_deep]; omega)) (by first | omega | (simp only [symDeep]; omega) | (simp only [symDeep]; rw [join_deep]; omega)))
      | exact Dp.ret (deep3 (by first | omega | (simp only [symDeep]; omega) | (simp only [symDeep]; rw [join_deep]; omega)) (by first | omega | (simp only [symDeep]; omega) | (simp only [symDeep]; rw [join_deep]; omega)) (by first | omega | (simp only [symDeep]; omega) | (simp only [symDeep]; rw [join_deep]; omega)) (by first | omega | (simp only [symDeep]; omega) | (simp only [symDeep]; rw [join_deep]; omega)))
      | exact Dp.ret (deep3 (by first | omega | (simp only [symDeep]; omega) | (simp only [symDeep]; rw [join_deep]; omega)) (by first | omega | (simp only [symDeep]; omega) | (simp only [symDeep]; rw [join_deep]; omega)) (by first | omega | (simp only [symDeep]; omega) | (simp only [symDeep]; rw [join_deep]; omega)) (deep0 (by first | omega | (simp only [symDeep]; omega) | (simp only [symDeep]; rw [join_deep]; omega))))
      | exact Dp.ret (deep3 (by first | omega | (simp only [symDeep]; omega) | (simp only [symDeep]; rw [join_deep]; omega)) (by first | omega | (simp only [symDeep]; omega) | (simp only [symDeep]; rw [join_deep]; omega)) (deep0 (by first | omega | (simp only [symDeep]; omega) | (simp only [symDeep]; rw [join_deep]; omega))) (by first | omega | (simp only [symDeep]; omega) | (simp only [symDeep]; rw [join_deep]; omega)))
      | refine dp_unitK fun _ _ _ => ?_
      | refine dp_if ?_ ?_
      | refine Dp.see ?_ ?_ | refine Dp.see2 ?_ ?_ | refine Dp.here fun _ => ?_ | refine Dp.take fun _ => ?_
      | refine Dp.call rfl fun _ _ => ?_
  | .expr, _ => by
    show Dp 0 exprC
    repeat first
      | exact Dp.stop _ | exact Dp.lim _ _
      | exact Dp.ret (by first | omega | (simp only [symDeep]; omega) | (simp only [symDeep]; rw [join_deep]; omega))
      | exact Dp.ret (deep0 (by first | omega | (simp only [symDeep]; omega) | (simp only [symDeep]; rw [join_deep]; omega)))
      | exact Dp.ret (deep1 (by first | omega | (simp only [symDeep]; omega) | (simp only [symDeep]; rw [join_deep]; omega)))
      | exact Dp.ret (put_deep (by first | omega | (simp only [symDeep]; omega) | (simp only [symDeep]; rw [join_deep]; omega)) (by assumption) (by assumption))
      | exact Dp.ret (deep2 (by first | omega | (simp only [symDeep]; omega) | (simp only [symDeep]; rw [join_deep]; omega)) (by first | omega | (simp only [symDeep]; omega) | (simp only [symDeep]; rw [join_deep]; omega)))
      | exact Dp.ret (deep3 (by first | omega | (simp only [symDeep]; omega) | (simp only [symDeep]; rw [join_deep]; omega)) (by first | omega | (simp only [symDeep]; omega) | (simp only [symDeep]; rw [join_deep]; omega)) (by first | omega | (simp only [symDeep]; omega) | (simp only [symDeep]; rw [join_deep]; omega)) (by first | omega | (simp only [symDeep]; omega) | (simp only [symDeep]; rw [join_deep]; omega)))
      | exact Dp.ret (deep3 (by first | omega | (simp only [symDeep]; omega) | (simp only [symDeep]; rw [join_deep]; omega)) (by first | omega | (simp only [symDeep]; omega) | (simp only [symDeep]; rw [join_deep]; omega)) (by first | omega | (simp only [symDeep]; omega) | (simp only [symDeep]; rw [join_deep]; omega)) (deep0 (by first | omega | (simp only [symDeep]; omega) | (simp only [symDeep]; rw [join_deep]; omega))))
      | exact Dp.ret (deep3 (by first | omega | (simp only [symDeep]; omega) | (simp only [symDeep]; rw [join_deep]; omega)) (by first | omega | (simp only [symDeep]; omega) | (simp only [symDeep]; rw [join_deep]; omega)) (deep0 (by first | omega | (simp only [symDeep]; omega) | (simp only [symDeep]; rw [join_deep]; omega))) (by first | omega | (simp only [symDeep]; omega) | (simp only [symDeep]; rw [join_deep]; omega)))
      | refine dp_unitK fun _ _ _ => ?_
      | refine dp_if ?_ ?_
      | refine Dp.see ?_ ?_ | refine Dp.see2 ?_ ?_ | refine Dp.here fun _ => ?_ | refine Dp.take fun _ => ?_
      | refine Dp.call rfl fun _ _ => ?_
  | .unit, _ => by
    show Dp 0 (.see begins (.take unitT) .stop)
    repeat first
      | exact Dp.stop _ | exact Dp.lim _ _
      | exact Dp.ret (by first | omega | (simp only [symDeep]; omega) | (simp only [symDeep]; rw [join_deep]; omega))
      | exact Dp.ret (deep0 (by first | omega | (simp only [symDeep]; omega) | (simp only [symDeep]; rw [join_deep]; omega)))
      | exact Dp.ret (deep1 (by first | omega | (simp only [symDeep]; omega) | (simp only [symDeep]; rw [join_deep]; omega)))
      | exact Dp.ret (put_deep (by first | omega | (simp only [symDeep]; omega) | (simp only [symDeep]; rw [join_deep]; omega)) (by assumption) (by assumption))
      | exact Dp.ret (deep2 (by first | omega | (simp only [symDeep]; omega) | (simp only [symDeep]; rw [join_deep]; omega)) (by first | omega | (simp only [symDeep]; omega) | (simp only [symDeep]; rw [join_deep]; omega)))
      | exact Dp.ret (deep3 (by first | omega | (simp only [symDeep]; omega) | (simp only [symDeep]; rw [join_deep]; omega)) (by first | omega | (simp only [symDeep]; omega) | (simp only [symDeep]; rw [join_deep]; omega)) (by first | omega | (simp only [symDeep]; omega) | (simp only [symDeep]; rw [join_deep]; omega)) (by first | omega | (simp only [symDeep]; omega) | (simp only [symDeep]; rw [join_deep]; omega)))
      | exact Dp.ret (deep3 (by first | omega | (simp only [symDeep]; omega) | (simp only [symDeep]; rw [join_deep]; omega)) (by first | omega | (simp only [symDeep]; omega) | (simp only [symDeep]; rw [join_deep]; omega)) (by first | omega | (simp only [symDeep]; omega) | (simp only [symDeep]; rw [join_deep]; omega)) (deep0 (by first | omega | (simp only [symDeep]; omega) | (simp only [symDeep]; rw [join_deep]; omega))))
      | exact Dp.ret (deep3 (by first | omega | (simp only [symDeep]; omega) | (simp only [symDeep]; rw [join_deep]; omega)) (by first | omega | (simp only [symDeep]; omega) | (simp only [symDeep]; rw [join_deep]; omega)) (deep0 (by first | omega | (simp only [symDeep]; omega) | (simp only [symDeep]; rw [join_deep]; omega))) (by first | omega | (simp only [symDeep]; omega) | (simp only [symDeep]; rw [join_deep]; omega)))
      | refine dp_unitK fun _ _ _ => ?_
      | refine dp_if ?_ ?_
      | refine Dp.see ?_ ?_ | refine Dp.see2 ?_ ?_ | refine Dp.here fun _ => ?_ | refine Dp.take fun _ => ?_
      | refine Dp.call rfl fun _ _ => ?_
  | .appL p a, _ => by
    show Dp (deepE a) (body (.appL p a))
    have ha := deep_pos a
    repeat first
      | exact Dp.stop _ | exact Dp.lim _ _
      | exact Dp.ret (by first | omega | (simp only [symDeep]; omega) | (simp only [symDeep]; rw [join_deep]; omega))
      | exact Dp.ret (deep0 (by first | omega | (simp only [symDeep]; omega) | (simp only [symDeep]; rw [join_deep]; omega)))
      | exact Dp.ret (deep1 (by first | omega | (simp only [symDeep]; omega) | (simp only [symDeep]; rw [join_deep]; omega)))
      | exact Dp.ret (put_deep (by first | omega | (simp only [symDeep]; omega) | (simp only [symDeep]; rw [join_deep]; omega)) (by assumption) (by assumption))
      | exact Dp.ret (deep2 (by first | omega | (simp only [symDeep]; omega) | (simp only [symDeep]; rw [join_deep]; omega)) (by first | omega | (simp only [symDeep]; omega) | (simp only [symDeep]; rw [join_deep]; omega)))
      | exact Dp.ret (deep3 (by first | omega | (simp only [symDeep]; omega) | (simp only [symDeep]; rw [join_deep]; omega)) (by first | omega | (simp only [symDeep]; omega) | (simp only [symDeep]; rw [join_deep]; omega)) (by first | omega | (simp only [symDeep]; omega) | (simp only [symDeep]; rw [join_deep]; omega)) (by first | omega | (simp only [symDeep]; omega) | (simp only [symDeep]; rw [join_deep]; omega)))
      | exact Dp.ret (deep3 (by first | omega | (simp only [symDeep]; omega) | (simp only [symDeep]; rw [join_deep]; omega)) (by first | omega | (simp only [symDeep]; omega) | (simp only [symDeep]; rw [join_deep]; omega)) (by first | omega | (simp only [symDeep]; omega) | (simp only [symDeep]; rw [join_deep]; omega)) (deep0 (by first | omega | (simp only [symDeep]; omega) | (simp only [symDeep]; rw [join_deep]; omega))))
      | exact Dp.ret (deep3 (by first | omega | (simp only [symDeep]; omega) | (simp only [symDeep]; rw [join_deep]; omega)) (by first | omega | (simp only [symDeep]; omega) | (simp only [symDeep]; rw [join_deep]; omega)) (deep0 (by first | omega | (simp only [symDeep]; omega) | (simp only [symDeep]; rw [join_deep]; omega))) (by first | omega | (simp only [symDeep]; omega) | (simp only [symDeep]; rw [join_deep]; omega)))
      | refine dp_unitK fun _ _ _ => ?_
      | refine dp_if ?_ ?_
      | refine Dp.see ?_ ?_ | refine Dp.see2 ?_ ?_ | refine Dp.here fun _ => ?_ | refine Dp.take fun _ => ?_
      | refine Dp.call rfl fun _ _ => ?_
  | .prodL p a, _ => by
    show Dp (deepE a) (body (.prodL p a))
    have ha := deep_pos a
    repeat first
      | exact Dp.stop _ | exact Dp.lim _ _
      | exact Dp.ret (by first | omega | (simp only [symDeep]; omega) | (simp only [symDeep]; rw [join_deep]; omega))
      | exact Dp.ret (deep0 (by first | omega | (simp only [symDeep]; omega) | (simp only [symDeep]; rw [join_deep]; omega)))
      | exact Dp.ret (deep1 (by first | omega | (simp only [symDeep]; omega) | (simp only [symDeep]; rw [join_deep]; omega)))
      | exact Dp.ret (put_deep (by first | omega | (simp only [symDeep]; omega) | (simp only [symDeep]; rw [join_deep]; omega)) (by assumption) (by assumption))
      | exact Dp.ret (deep2 (by first | omega | (simp only [symDeep]; omega) | (simp only [symDeep]; rw [join_deep]; omega)) (by first | omega | (simp only [symDeep]; omega) | (simp only [symDeep]; rw [join_deep]; omega)))
      | exact Dp.ret (deep3 (by first | omega | (simp only [symDeep]; omega) | (simp only [symDeep]; rw [join_deep]; omega)) (by first | omega | (simp only [symDeep]; omega) | (simp only [symDeep]; rw [join_deep]; omega)) (by first | omega | (simp only [symDeep]; omega) | (simp only [symDeep]; rw [join_deep]; omega)) (by first | omega | (simp only [symDeep]; omega) | (simp only [symDeep]; rw [join_deep]; omega)))
      | exact Dp.ret (deep3 (by first | omega | (simp only [symDeep]; omega) | (simp only [symDeep]; rw [join_deep]; omega)) (by first | omega | (simp only [symDeep]; omega) | (simp only [symDeep]; rw [join_deep]; omega)) (by first | omega | (simp only [symDeep]; omega) | (simp only [symDeep]; rw [join_deep]; omega)) (deep0 (by first | omega | (simp only [symDeep]; omega) | (simp only [symDeep]; rw [join_deep]; omega))))
      | exact Dp.ret (deep3 (by first | omega | (simp only [symDeep]; omega) | (simp only [symDeep]; rw [join_deep]; omega)) (by first | omega | (simp only [symDeep]; omega) | (simp only [symDeep]; rw [join_deep]; omega)) (deep0 (by first | omega | (simp only [symDeep]; omega) | (simp only [symDeep]; rw [join_deep]; omega))) (by first | omega | (simp only [symDeep]; omega) | (simp only [symDeep]; rw [join_deep]; omega)))
      | refine dp_unitK fun _ _ _ => ?_
      | refine dp_if ?_ ?_
      | refine Dp.see ?_ ?_ | refine Dp.see2 ?_ ?_ | refine Dp.here fun _ => ?_ | refine Dp.take fun _ => ?_
      | refine Dp.call rfl fun _ _ => ?_
  | .sumL p a, _ => by
    show Dp (deepE a) (body (.sumL p a))
    have ha := deep_pos a
    repeat first
      | exact Dp.stop _ | exact Dp.lim _ _
      | exact Dp.ret (by first | omega | (simp only [symDeep]; omega) | (simp only [symDeep]; rw [join_deep]; omega))
      | exact Dp.ret (deep0 (by first | omega | (simp only [symDeep]; omega) | (simp only [symDeep]; rw [join_deep]; omega)))
      | exact Dp.ret (deep1 (by first | omega | (simp only [symDeep]; omega) | (simp only [symDeep]; rw [join_deep]; omega)))
      | exact Dp.ret (put_deep (by first | omega | (simp only [symDeep]; omega) | (simp only [symDeep]; rw [join_deep]; omega)) (by assumption) (by assumption))
      | exact Dp.ret (deep2 (by first | omega | (simp only [symDeep]; omega) | (simp only [symDeep]; rw [join_deep]; omega)) (by first | omega | (simp only [symDeep]; omega) | (simp only [symDeep]; rw [join_deep]; omega)))
      | exact Dp.ret (deep3 (by first | omega | (simp only [symDeep]; omega) | (simp only [symDeep]; rw [join_deep]; omega)) (by first | omega | (simp only [symDeep]; omega) | (simp only [symDeep]; rw [join_deep]; omega)) (by first | omega | (simp only [symDeep]; omega) | (simp only [symDeep]; rw [join_deep]; omega)) (by first | omega | (simp only [symDeep]; omega) | (simp only [symDeep]; rw [join_deep]; omega)))
      | exact Dp.ret (deep3 (by first | omega | (simp only [symDeep]; omega) | (simp only [symDeep]; rw [join_deep]; omega)) (by first | omega | (simp only [symDeep]; omega) | (simp only [symDeep]; rw [join_deep]; omega)) (by first | omega | (simp only [symDeep]; omega) | (simp only [symDeep]; rw [join_deep]; omega)) (deep0 (by first | omega | (simp only [symDeep]; omega) | (simp only [symDeep]; rw [join_deep]; omega))))
      | exact Dp.ret (deep3 (by first | omega | (simp only [symDeep]; omega) | (simp only [symDeep]; rw [join_deep]; omega)) (by first | omega | (simp only [symDeep]; omega) | (simp only [symDeep]; rw [join_deep]; omega)) (deep0 (by first | omega | (simp only [symDeep]; omega) | (simp only [symDeep]; rw [join_deep]; omega))) (by first | omega | (simp only [symDeep]; omega) | (simp only [symDeep]; rw [join_deep]; omega)))
      | refine dp_unitK fun _ _ _ => ?_
      | refine dp_if ?_ ?_
      | refine Dp.see ?_ ?_ | refine Dp.see2 ?_ ?_ | refine Dp.here fun _ => ?_ | refine Dp.take fun _ => ?_
      | refine Dp.call rfl fun _ _ => ?_
  | .decls _ _, h => by cases h
  | .doms _ _, h => by cases h
theorem P_deep (en : Nat) : ∀ (f : Nat) (s : Sym) (ts : List Tok) (x : Ex) (r : List Tok), small' s = true → P en f s ts = .ok x r → deepE x + r.length ≤ symDeep s + ts.length
  | 0, _, _, _, _, _, h => by cases h
  | f + 1, s, _, _, _, hs, h => run_deep (P_deep en f) (fun s ts x r e => by have := P_left en f s ts; rw [e] at this; exact this) (dp_body s hs) (Nat.le_refl _) h
end Go.Proofs.YtkljakeccfnakaaGreatDoor

namespace Go.Proofs.YtkljakeccfnakaaGreatDoor

/-! Places. -/
/-! Limits are told at places of the text. -/
/-! Other blanks between the words. -/
end Go.Proofs.YtkljakeccfnakaaGreatDoor

namespace Go.Proofs.YtkljakeccfnakaaGreatDoor

end Go.Proofs.YtkljakeccfnakaaGreatDoor

namespace Go.Proofs.YtkljakeccfnakaaGreatDoor

end Go.Proofs.YtkljakeccfnakaaGreatDoor

namespace Go.Proofs.YtkljakeccfnakaaGreatDoor

def Kid12 (x : Ex) : Prop := x.kind = 12 → ∃ y, x.kids = [y]
def Skid12 : Sym → Prop
  | .appL _ a => Kid12 a
  | .prodL _ a => Kid12 a
  | .sumL _ a => Kid12 a
  | _ => True
inductive Gd : Cmd → Prop
  | ret {x : Ex} : Kid12 x → Gd (.ret x)
  | stop : Gd .stop
  | lim (p : Nat) : Gd (.lim p)
  | see {p : Tok → Bool} {a b : Cmd} : Gd a → Gd b → Gd (.see p a b)
  | see2 {p : Tok → Bool} {a b : Cmd} : Gd a → Gd b → Gd (.see2 p a b)
  | here {k : Nat → Cmd} : (∀ p, Gd (k p)) → Gd (.here k)
  | take {k : Tok → Cmd} : (∀ t, Gd (k t)) → Gd (.take k)
  | call {s : Sym} {k : Ex → Cmd} : Skid12 s → (∀ x, Kid12 x → Gd (k x)) → Gd (.call s k)
theorem run_gd {en : Nat} {R : Sym → List Tok → Out} (hR : ∀ s ts x r, Skid12 s → R s ts = .ok x r → Kid12 x) {c : Cmd} (hc : Gd c) : ∀ {ts r : List Tok} {x : Ex}, runC en R c ts = .ok x r → Kid12 x := by
  induction hc with
  | ret h => intro ts r x e; simp only [runC, Out.ok.injEq] at e; rw [← e.1]; exact h
  | stop => intro ts r x e; cases e
  | lim p => intro ts r x e; cases e
  | see _ _ ha hb =>
    intro ts r x e
    simp only [runC] at e
    split at e
    · exact ha e
    · exact hb e
  | see2 _ _ ha hb =>
    intro ts r x e
    simp only [runC] at e
    split at e
    · exact ha e
    · exact hb e
  | here _ ih => intro ts r x e; exact ih _ e
  | take _ ih =>
    intro ts r x e
    cases ts with
    | nil => cases e
    | cons t q => exact ih t e
  | @call s k hs _ ih =>
    intro ts r x e
    simp only [runC] at e
    cases e2 : R s ts with
    | ok y q => rw [e2] at e; exact ih y (hR s ts y q hs e2) e
    | no q => rw [e2] at e; cases e
    | lim p => rw [e2] at e; cases e
    | out => rw [e2] at e; cases e
theorem gd_if {p : Prop} [Decidable p] {a b : Cmd} (ha : Gd a) (hb : Gd b) : Gd (if p then a else b) := by
  split
  · exact ha
  · exact hb
theorem kid12_of {k : Nat} {t o : List UInt8} {n : Int} {p : Nat} {l : List Ex} (h : k ≠ 12) : Kid12 (.mk k t o n p l) := fun e => absurd e h
theorem kid12_at {t o : List UInt8} {n : Int} {p : Nat} {a : Ex} : Kid12 (.mk 12 t o n p [a]) := fun _ => ⟨a, rfl⟩
theorem gd_body : ∀ s : Sym, Skid12 s → Gd (body s) := by
  intro s hs
  cases s
  all_goals
    simp only [body, seqC, exprC, letC, choiceC, funC, matchC, storeT, pairsC, optionsC, noneArm, someArm, unitK, testC, sumK, prodK, mayC, mustC, kindC, nameC', declsC, domsC, domC, declC, firstC, joinE, Skid12] at hs ⊢
    repeat first
      | exact Gd.ret (by first | assumption | exact kid12_of (by decide) | exact kid12_at)
      | exact Gd.stop | exact Gd.lim _
      | refine gd_if ?_ ?_
      | refine Gd.see ?_ ?_ | refine Gd.see2 ?_ ?_ | refine Gd.here fun _ => ?_ | refine Gd.take fun _ => ?_
      | refine Gd.call (by first | trivial | assumption | exact kid12_of (by decide)) fun _ _ => ?_
      | (unfold unitT namedC insideC mayC mustC nameC' kindC)
theorem P_kid12 (en : Nat) : ∀ (f : Nat) (s : Sym) (ts : List Tok) (x : Ex) (r : List Tok), Skid12 s → P en f s ts = .ok x r → Kid12 x
  | 0, _, _, _, _, _, h => by cases h
  | f + 1, s, _, _, _, hs, h => run_gd (P_kid12 en f) (gd_body s hs) h
end Go.Proofs.YtkljakeccfnakaaGreatDoor
