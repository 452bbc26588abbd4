/-
  Parts that stand to the left: how one round goes on. No program is named here but in the contracts.
  What a test comes to; what begins with a name: a test, or a put. No program is named here but in the contracts.
-/
import Derived.Test.YtlkidgilhlpjhaaGreatDoorRb
namespace Go.Proofs.YtlkidgilhlpjhaaGreatDoor
open Go.RowKit

/-- A unit; an app; a prod; a sum: each with the place of what it is the left part of. -/
def ch3 (_ : Nat) (k : Ex -> Cmd) : Cmd := .call .unit k
def ch2 (p : Nat) (k : Ex -> Cmd) : Cmd := .call .unit fun u => .call (.appL p u) k
def ch1 (p : Nat) (k : Ex -> Cmd) : Cmd := .call .unit fun u => prodK p u k
def ch0 (p : Nat) (k : Ex -> Cmd) : Cmd := .call .unit fun u => sumK p u k
section
variable {en f : Nat}
theorem rsee_n {p : Tok -> Bool} {a b : Cmd} {ts : List Tok} (h : hd p ts = false) : runC en (P en f) (.see p a b) ts = runC en (P en f) b ts := by simp [runC, h]
theorem rsee_y {p : Tok -> Bool} {a b : Cmd} {ts : List Tok} (h : hd p ts = true) : runC en (P en f) (.see p a b) ts = runC en (P en f) a ts := by simp [runC, h]
theorem then_assoc {k : Ex -> Cmd} {j : Ex -> Sym} {o : Out} : thenO en f k (thenO en f (fun b => .call (j b) .ret) o) = thenO en f (fun b => .call (j b) k) o := by
 cases o with
 | ok x r =>
  show thenO en f k (runC en (P en f) (.call (j x) .ret) r) = runC en (P en f) (.call (j x) k) r
  rw [run_tail, run_call]
 | no r => rfl
 | lim p => rfl
 | out => rfl
theorem then_call {j : Ex -> Sym} {k : Ex -> Cmd} {o : Out} : thenO en f (fun b => .call (j b) k) o = thenO en f k (thenO en f (fun b => .call (j b) .ret) o) := then_assoc.symm
theorem then_ret (o : Out) : thenO en f .ret o = o := by cases o <;> rfl
theorem ch3_bind {p : Nat} {k : Ex -> Cmd} {ts : List Tok} : runC en (P en f) (ch3 p k) ts = thenO en f k (runC en (P en f) (ch3 p .ret) ts) := by
 simp only [ch3, run_call, then_ret]
theorem ch2_bind {p : Nat} {k : Ex -> Cmd} {ts : List Tok} : runC en (P en f) (ch2 p k) ts = thenO en f k (runC en (P en f) (ch2 p .ret) ts) := by
 simp only [ch2, run_call]
 rw [then_call]
theorem ch1_bind {p : Nat} {k : Ex -> Cmd} {ts : List Tok} : runC en (P en f) (ch1 p k) ts = thenO en f k (runC en (P en f) (ch1 p .ret) ts) := by
 have e : ∀ k, runC en (P en f) (ch1 p k) ts = thenO en f (fun a => .call (.prodL p a) k) (runC en (P en f) (ch2 p .ret) ts) := fun k => by
  rw [← ch2_bind]; rfl
 rw [e, e, then_call]
theorem ch0_bind {p : Nat} {k : Ex -> Cmd} {ts : List Tok} : runC en (P en f) (ch0 p k) ts = thenO en f k (runC en (P en f) (ch0 p .ret) ts) := by
 have e : ∀ k, runC en (P en f) (ch0 p k) ts = thenO en f (fun a => .call (.sumL p a) k) (runC en (P en f) (ch1 p .ret) ts) := fun k => by
  rw [← ch1_bind]; rfl
 rw [e, e, then_call]
theorem ch1_step {p : Nat} {ts : List Tok} : runC en (P en f) (ch1 p .ret) ts = thenO en f (fun a => .call (.prodL p a) .ret) (runC en (P en f) (ch2 p .ret) ts) := by
 rw [← ch2_bind]; rfl
theorem ch0_step {p : Nat} {ts : List Tok} : runC en (P en f) (ch0 p .ret) ts = thenO en f (fun a => .call (.sumL p a) .ret) (runC en (P en f) (ch1 p .ret) ts) := by
 rw [← ch1_bind]; rfl
theorem ch2_step {p : Nat} {ts : List Tok} : runC en (P en f) (ch2 p .ret) ts = thenO en f (fun a => .call (.appL p a) .ret) (runC en (P en f) (ch3 p .ret) ts) := by
 rw [← ch3_bind]; rfl
theorem up_f {g : Nat} {s : Sym} {us : List Tok} (h : P en (g + 1) s us ≠ .out) : P en (g + 1) s us = runC en (P en (g + 1)) (body s) us := by
 have e : P en (g + 1) s us = runC en (P en g) (body s) us := rfl; rw [e] at h ⊢; exact (runP_mono en (Nat.le_succ g) _ _ h).symm
theorem up_body {s : Sym} {us : List Tok} (h : P en f s us ≠ .out) : P en f s us = runC en (P en f) (body s) us := by
 cases f with
 | zero => exact absurd rfl h
 | succ g => exact up_f h
variable {ts : List Tok} {j : Nat} {O : Out} {k : Ex -> Cmd} {p : Nat} {x : Ex}
theorem sum_yes (hg : thenO en f k (P en f (.sumL p x) (ts.drop j)) = O) (hO : O ≠ .out) (c : hd (isT [43]) (ts.drop j) = true \/ hd (isT [45]) (ts.drop j) = true) :
  ∃ t, ts[j]? = some t /\ thenO en f (fun b => .call (.sumL p (joinE 21 t.text p x b)) k) (runC en (P en f) (ch1 (place en (ts.drop (j + 1))) .ret) (ts.drop (j + 1))) = O := by
 have c2 : hd (fun t => isT [43] t || isT [45] t) (ts.drop j) = true := by
  cases e : ts.drop j with
  | nil => rw [e] at c; simp [hd] at c
  | cons a r => rw [e] at c; simp only [hd] at c ⊢; simpa using c
 obtain ⟨t, e, h, _⟩ := dr c2; refine ⟨t, h, ?_⟩; have hne : P en f (.sumL p x) (ts.drop j) ≠ .out := then_out (f := f) (k := k) (by rw [hg]; exact hO); rw [up_body hne] at hg
 simp only [body, runC] at hg
 rw [if_pos c2, e, runC, unitK, runC] at hg; rw [then_call, ← ch1_bind]; exact hg
theorem prod_yes (hg : thenO en f k (P en f (.prodL p x) (ts.drop j)) = O) (hO : O ≠ .out) (c : hd (isT [42]) (ts.drop j) = true \/ hd (isT [47]) (ts.drop j) = true) :
  ∃ t, ts[j]? = some t /\ thenO en f (fun b => .call (.prodL p (joinE 21 t.text p x b)) k) (runC en (P en f) (ch2 (place en (ts.drop (j + 1))) .ret) (ts.drop (j + 1))) = O := by
 have c2 : hd (fun t => isT [42] t || isT [47] t) (ts.drop j) = true := by
  cases e : ts.drop j with
  | nil => rw [e] at c; simp [hd] at c
  | cons a r => rw [e] at c; simp only [hd] at c ⊢; simpa using c
 obtain ⟨t, e, h, _⟩ := dr c2; refine ⟨t, h, ?_⟩; have hne : P en f (.prodL p x) (ts.drop j) ≠ .out := then_out (f := f) (k := k) (by rw [hg]; exact hO); rw [up_body hne] at hg
 simp only [body, runC] at hg
 rw [if_pos c2, e, runC, unitK, runC] at hg; rw [then_call, ← ch2_bind]; exact hg
theorem app_yes (hg : thenO en f k (P en f (.appL p x) (ts.drop j)) = O) (hO : O ≠ .out) (c : hd begins (ts.drop j) = true) :
  thenO en f (fun b => .call (.appL p (joinE 8 [] p x b)) k) (runC en (P en f) (ch3 (place en (ts.drop j)) .ret) (ts.drop j)) = O := by
 have hne : P en f (.appL p x) (ts.drop j) ≠ .out := then_out (f := f) (k := k) (by rw [hg]; exact hO); rw [up_body hne] at hg; have e : runC en (P en f) (body (.appL p x)) (ts.drop j) = runC en (P en f) (.call .unit fun u => .call (.appL p (joinE 8 [] p x u)) .ret) (ts.drop j) := by
  simp only [body]; rw [rsee_y c]
 rw [e] at hg; rw [then_call, ← ch3_bind]; exact hg
theorem sum_no (hg : thenO en f k (P en f (.sumL p x) (ts.drop j)) = O) (hO : O ≠ .out) (c : hd (isT [43]) (ts.drop j) = false) (d : hd (isT [45]) (ts.drop j) = false) : runC en (P en f) (k x) (ts.drop j) = O := by
 have c2 : hd (fun t => isT [43] t || isT [45] t) (ts.drop j) = false := by
  cases e : ts.drop j with
  | nil => rfl
  | cons a r => rw [e] at c d; simp only [hd] at c d ⊢; rw [c, d]; rfl
 have hne : P en f (.sumL p x) (ts.drop j) ≠ .out := then_out (f := f) (k := k) (by rw [hg]; exact hO); rw [up_body hne] at hg
 simp only [body] at hg
 rw [rsee_n c2] at hg; exact hg
theorem prod_no (hg : thenO en f k (P en f (.prodL p x) (ts.drop j)) = O) (hO : O ≠ .out) (c : hd (isT [42]) (ts.drop j) = false) (d : hd (isT [47]) (ts.drop j) = false) : runC en (P en f) (k x) (ts.drop j) = O := by
 have c2 : hd (fun t => isT [42] t || isT [47] t) (ts.drop j) = false := by
  cases e : ts.drop j with
  | nil => rfl
  | cons a r => rw [e] at c d; simp only [hd] at c d ⊢; rw [c, d]; rfl
 have hne : P en f (.prodL p x) (ts.drop j) ≠ .out := then_out (f := f) (k := k) (by rw [hg]; exact hO); rw [up_body hne] at hg
 simp only [body] at hg
 rw [rsee_n c2] at hg; exact hg
theorem app_no (hg : thenO en f k (P en f (.appL p x) (ts.drop j)) = O) (hO : O ≠ .out) (c : hd begins (ts.drop j) = false) : runC en (P en f) (k x) (ts.drop j) = O := by
 have hne : P en f (.appL p x) (ts.drop j) ≠ .out := then_out (f := f) (k := k) (by rw [hg]; exact hO); rw [up_body hne] at hg
 simp only [body] at hg
 rw [rsee_n c] at hg; exact hg
/-- What is read ends behind where it began. -/
theorem left_ge {c : Cmd} {i m : Nat} (h : runC en (P en f) c (ts.drop i) = .ok x (ts.drop m)) (hm : m <= ts.length) (hi : i <= ts.length) : i <= m := by
 have := run_left (en := en) (P_left en f) c (ts.drop i); rw [h] at this
 simp only [Out.Left, List.length_drop] at this
 omega
theorem unit_gt {i m : Nat} (h : runC en (P en f) (ch3 p .ret) (ts.drop i) = .ok x (ts.drop m)) (hm : m <= ts.length) : i < m := by
 rw [ch3, run_tail] at h; have := P_eat en f .unit _ x _ rfl h
 simp only [List.length_drop] at this
 omega
end
theorem KeptQ.below {q : Nat -> Prop} {w w1 w2 : World} (h : KeptQ q w w1) (hb : Below w1.heap.size w1 w2) : KeptQ q w w2 :=
 ⟨Nat.le_trans h.size hb.size, fun b h1 h2 => (hb.block b (Nat.lt_of_lt_of_le h2 h.size)).trans (h.block b h1 h2)⟩
theorem KeptQ.own3 {q : Nat -> Prop} {a b c o : Nat} {u : Value} {w w1 : World} (h : KeptQ (Qn q a b c) w w1) : KeptQ (Qn q a b c) w (w1.setCell ⟨c, o, none⟩ u) := h.setCell (fun e => absurd rfl (Qn.no e).2.2) u
theorem KeptQ.own2 {q : Nat -> Prop} {a b c o : Nat} {u : Value} {w w1 : World} (h : KeptQ (Qn q a b c) w w1) : KeptQ (Qn q a b c) w (w1.setCell ⟨b, o, none⟩ u) := h.setCell (fun e => absurd rfl (Qn.no e).2.1) u
/-- The contract of a chain: what it reads is its own answer. -/
def RCh (ts : List Tok) (en f l : Nat) (c : Nat -> (Ex -> Cmd) -> Cmd) : Prop :=
 ∀ (v : Value) (z : Int) (i : Nat) (O : Out) (w : World), TokSl w v ts -> z = (i : Int) -> i <= ts.length -> O ≠ .out -> runC en (P en f) (c (place en (ts.drop i)) .ret) (ts.drop i) = O →
  Calls Tryz.prog 59 #[txV v en, .int .i64 z, .int .i64 (l : Int)] w (REnd ts w O fun x r => O = .ok x r)
end Go.Proofs.YtlkidgilhlpjhaaGreatDoor

namespace Go.Proofs.YtlkidgilhlpjhaaGreatDoor

theorem hdT {ts r : List Tok} {t : Tok} {i : Nat} (e : ts.drop i = t :: r) (s : List UInt8) : hd (isT s) (ts.drop i) = (t.text == s) := by rw [e]; rfl
theorem hdK {ts r : List Tok} {t : Tok} {i : Nat} (e : ts.drop i = t :: r) (k : Nat) : hd (isK k) (ts.drop i) = (t.kind == k) := by rw [e]; rfl
theorem drop_one {ts r : List Tok} {t : Tok} {i : Nat} (e : ts.drop i = t :: r) : ts.drop (i + 1) = r /\ ts[i]? = some t /\ i + 1 <= ts.length /\ t ∈ ts := by
 have hl : (ts.drop i).length = r.length + 1 := by rw [e]; rfl
 rw [List.length_drop] at hl; exact ⟨by rw [← List.drop_drop, e]; rfl, by rw [tok_drop, e]; rfl, by omega, List.mem_of_mem_drop (i := i) (by rw [e]; exact List.mem_cons_self)⟩
/-- What a part to the left comes to: what it was, or something joined. -/
def leftOf : Sym -> Option Ex
 | .appL _ a => some a
 | .prodL _ a => some a
 | .sumL _ a => some a
 | _ => none
theorem left_same (en : Nat) : ∀ (f : Nat) (s : Sym) (a : Ex), leftOf s = some a -> ∀ (ts : List Tok) (e : Ex) (r : List Tok), P en f s ts = .ok e r -> (e = a /\ r = ts) \/ e.kind = 8 \/ e.kind = 21 := by
 intro f
 induction f with
 | zero => intro s a _ ts e r h; cases h
 | succ f ih =>
  have hj : ∀ (s : Sym) (k p : Nat) (t : List UInt8) (x y : Ex), (k = 8 \/ k = 21) -> leftOf s = some (joinE k t p x y) -> ∀ (ts us : List Tok) (a e : Ex) (r : List Tok), P en f s us = .ok e r -> (e = a /\ r = ts) \/ e.kind = 8 \/ e.kind = 21 := by
   intro s k p t x y hk hs ts us a e r h
   rcases ih s _ hs us e r h with ⟨rfl, _⟩ | h
   ·exact Or.inr (by simp only [joinE, Ex.kind]; exact hk)
   ·exact Or.inr h
  intro s a hs ts e r h
  change runC en (P en f) (body s) ts = _ at h
  cases s with
  | seq => cases hs
  | expr => cases hs
  | unit => cases hs
  | decls _ _ => cases hs
  | doms _ _ => cases hs
  | appL p b =>
   obtain rfl : b = a := by simpa [leftOf] using hs
   simp only [body, runC] at h
   split at h
   ·split at h
    ·split at h
     ·rename_i c
      simp only [Out.ok.injEq] at h
      obtain ⟨rfl, rfl⟩ := h; exact hj _ 8 p [] b _ (Or.inl rfl) rfl _ _ _ _ _ c
     ·cases h
     ·cases h
     ·cases h
    ·cases h
    ·cases h
    ·cases h
   ·simp only [Out.ok.injEq] at h
    exact Or.inl ⟨h.1.symm, h.2.symm⟩
  | prodL p b =>
   obtain rfl : b = a := by simpa [leftOf] using hs
   simp only [body, unitK] at h
   rw [runC] at h
   split at h
   ·cases ts with
    | nil => cases h
    | cons t q =>
     simp only [runC] at h
     split at h
     ·split at h
      ·split at h
       ·rename_i c
        simp only [Out.ok.injEq] at h
        obtain ⟨rfl, rfl⟩ := h; exact hj _ 21 p t.text b _ (Or.inr rfl) rfl _ _ _ _ _ c
       ·cases h
       ·cases h
       ·cases h
      ·cases h
      ·cases h
      ·cases h
     ·cases h
     ·cases h
     ·cases h
   ·simp only [runC, Out.ok.injEq] at h
    exact Or.inl ⟨h.1.symm, h.2.symm⟩
  | sumL p b =>
   obtain rfl : b = a := by simpa [leftOf] using hs
   simp only [body, unitK, prodK] at h
   rw [runC] at h
   split at h
   ·cases ts with
    | nil => cases h
    | cons t q =>
     simp only [runC] at h
     split at h
     ·split at h
      ·split at h
       ·split at h
        ·rename_i c
         simp only [Out.ok.injEq] at h
         obtain ⟨rfl, rfl⟩ := h; exact hj _ 21 p t.text b _ (Or.inr rfl) rfl _ _ _ _ _ c
        ·cases h
        ·cases h
        ·cases h
       ·cases h
       ·cases h
       ·cases h
      ·cases h
      ·cases h
      ·cases h
     ·cases h
     ·cases h
     ·cases h
   ·simp only [runC, Out.ok.injEq] at h
    exact Or.inl ⟨h.1.symm, h.2.symm⟩
theorem test_kind {en f p : Nat} {x e : Ex} {ts r : List Tok} (h : runC en (P en f) (testC p x) ts = .ok e r) (he : e.kind = 12) : e = x /\ r = ts := by
 simp only [testC, sumK, prodK] at h
 obtain ⟨a, q, h1, h⟩ := call_inv h; obtain ⟨b, q2, h2, h⟩ := call_inv h; obtain ⟨d, q3, h3, h⟩ := call_inv h; have k : ∀ (c : Nat) (us : List Tok), c ≠ 12 -> runC en (P en f) (unitK fun q u => .call (.appL q u) fun a => .call (.prodL q a) fun a => .call (.sumL q a) fun r => .ret (joinE c [] p d r)) us ≠ .ok e r := by
  intro c us hc h
  simp only [unitK, run_here] at h
  obtain ⟨_, _, _, h⟩ := call_inv h; obtain ⟨_, _, _, h⟩ := call_inv h; obtain ⟨_, _, _, h⟩ := call_inv h; obtain ⟨_, _, _, h⟩ := call_inv h
  simp only [runC, Out.ok.injEq] at h
  rw [← h.1] at he; exact hc he
 have fin : e = d /\ r = q3 := by
  rw [mayC, runC] at h
  split at h
  ·cases q3 with
   | nil => cases h
   | cons t u => exact absurd h (k 22 u (by decide))
  ·rw [mayC, runC] at h
   split at h
   ·cases q3 with
    | nil => cases h
    | cons t u => exact absurd h (k 23 u (by decide))
   ·simp only [runC, Out.ok.injEq] at h
    exact ⟨h.1.symm, h.2.symm⟩
 obtain ⟨rfl, rfl⟩ := fin
 rcases left_same en f _ _ rfl _ _ _ h3 with ⟨rfl, rfl⟩ | h3 | h3
 ·rcases left_same en f _ _ rfl _ _ _ h2 with ⟨rfl, rfl⟩ | h2 | h2
  ·rcases left_same en f _ _ rfl _ _ _ h1 with h1 | h1 | h1
   ·exact h1
   ·omega
   ·omega
  ·omega
  ·omega
 ·omega
 ·omega
/-- A sign that no part of a test begins with ends it at once. -/
theorem test_stop {en f p : Nat} {x : Ex} {ts : List Tok} (h0 : hd begins ts = false) (h1 : hd (isT [42]) ts = false) (h2 : hd (isT [47]) ts = false) (h3 : hd (isT [43]) ts = false) (h4 : hd (isT [45]) ts = false) (h5 : hd (isT [60]) ts = false) (h6 : hd (isT [61]) ts = false) :
  runC en (P en (f + 1)) (testC p x) ts = .ok x ts := by
 have orr : ∀ a b : List UInt8, hd (isT a) ts = false -> hd (isT b) ts = false -> hd (fun t => isT a t || isT b t) ts = false := by
  intro a b ha hb
  cases ts with
  | nil => rfl
  | cons t r => simp only [hd] at *; rw [ha, hb]; rfl
 have e1 : P en (f + 1) (.appL p x) ts = .ok x ts := by
  show runC en (P en f) (body (.appL p x)) ts = _
  simp only [body, runC, h0]; rfl
 have e2 : P en (f + 1) (.prodL p x) ts = .ok x ts := by
  show runC en (P en f) (body (.prodL p x)) ts = _
  simp only [body]; rw [rsee_n (orr _ _ h1 h2)]; rfl
 have e3 : P en (f + 1) (.sumL p x) ts = .ok x ts := by
  show runC en (P en f) (body (.sumL p x)) ts = _
  simp only [body]; rw [rsee_n (orr _ _ h3 h4)]; rfl
 simp only [testC, sumK, prodK, run_call, e1, e2, e3, thenO]
 rw [mayC, rsee_n h5, mayC, rsee_n h6, runC]
def putC (q : Nat) (u : Ex) : Cmd := if u.kind = 12 then mayC [60, 45] (.call .expr fun g => .ret (.mk 13 u.text [] 0 q [u.kid0, g])) (testC q u) else testC q u
/-- A unit that begins with a name. -/
theorem name_unit {ts : List Tok} (AF : AllFit ts) {en f i : Nat} {u : Ex} {t : Tok} {q r : List Tok} (e : ts.drop i = t :: q) (hk : t.kind = 1) (h : P en f .unit (ts.drop i) = .ok u r) (hu : u.kind = 12) : u.pl = place en (ts.drop i) := by
 cases f with
 | zero => cases h
 | succ f =>
 have hm := (drop_one e).2.2.2; have nk : ∀ s ∈ signL, t.text ≠ s := by
  intro s hs ht
  rcases AF s hs t hm ht with h | h <;> omega
 change runC en (P en f) (.see begins (.take unitT) .stop) _ = _ at h
 have hb : hd begins (ts.drop i) = true := by rw [e]; simp [hd, begins, hk]
 rw [rsee_y hb, e, runC] at h; unfold unitT at h; rw [if_neg (nk _ (by decide)), if_neg (nk _ (by decide)), if_neg (nk _ (by decide)), if_neg (nk _ (by decide)), if_neg (nk _ (by decide)), if_neg (nk _ (by decide)), if_neg (nk _ (by decide)), if_neg (nk _ (by decide)), if_neg (nk _ (by decide)), if_neg (nk _ (by decide)), if_neg (by omega)] at h; have hp : place en (ts.drop i) = t.pos := by rw [e]; rfl
 rw [hp]; rw [namedC, mayC, runC] at h
 split at h
 ·cases q with
  | nil => cases h
  | cons t2 q2 =>
   rw [runC] at h; obtain ⟨a, q3, _, h⟩ := call_inv h; obtain ⟨_, _, _, _, h⟩ := must_inv h
   simp only [runC, Out.ok.injEq] at h
   rw [← h.1]; rfl
 ·simp only [runC, Out.ok.injEq] at h
  rw [← h.1] at hu
  simp [Ex.kind] at hu
/-- What begins with a name: it is what a test is, or a put. -/
theorem put_or {ts : List Tok} (AF : AllFit ts) {en f i : Nat} {O : Out} (hk : hd (isK 1) (ts.drop i) = true) (hO : O ≠ .out) (hg : runC en (P en f) (unitK putC) (ts.drop i) = O) :
  (runC en (P en f) (unitK fun q u => testC q u) (ts.drop i) = O /\ ∀ e r, O = .ok e r -> e.kind = 12 -> hd (isT [60, 45]) r = false) ∨
  (∃ u kid, ∃ j, j + 1 <= ts.length /\ runC en (P en f) (unitK fun q u => testC q u) (ts.drop i) = .ok u (ts.drop j) /\ u.kind = 12 /\ u.pl = place en (ts.drop i) /\ u.kids = [kid] /\ hd (isT [60, 45]) (ts.drop j) = true /\ runC en (P en f) (.call .expr fun g => .ret (.mk 13 u.text [] 0 (place en (ts.drop i)) [kid, g])) (ts.drop (j + 1)) = O) := by
 obtain ⟨t, e, ht, hp, hl⟩ := dr hk; have hk1 : t.kind = 1 := by simpa [isK] using hp
 simp only [unitK, run_here, run_call] at hg ⊢
 cases c : P en f .unit (ts.drop i) with
 | no r => rw [c] at hg; exact Or.inl ⟨hg, fun e r h => by rw [← hg] at h; cases h⟩
 | lim r => rw [c] at hg; exact Or.inl ⟨hg, fun e r h => by rw [← hg] at h; cases h⟩
 | out => rw [c] at hg; exact absurd hg.symm hO
 | ok u r =>
  rw [c] at hg
  simp only [thenO] at hg ⊢
  by_cases hu : u.kind = 12
  ·by_cases hs : hd (isT [60, 45]) r = true
   ·refine Or.inr ?_; obtain ⟨kid, hkid⟩ := P_kid12 en f .unit _ u r trivial c hu; obtain ⟨l, hl2⟩ := P_suffix en f .unit _ u r c; have hr : r = ts.drop (i + l.length) := by rw [← List.drop_drop, hl2, List.drop_left]
    have hlen : r.length = ts.length - (i + l.length) := by rw [hr, List.length_drop]
    cases r with
    | nil => cases hs
    | cons t2 r2 =>
     have e2 := hr.symm; obtain ⟨d1, d2, d3, d4⟩ := drop_one e2; have htx : t2.text = [60, 45] := by simpa [hd, isT] using hs
     have hkd := AF [60, 45] (by decide) t2 d4 htx; refine ⟨u, kid, i + l.length, d3, ?_, hu, name_unit AF e hk1 c hu, hkid, by rw [← hr]; exact hs, ?_⟩
     ·cases f with
      | zero => cases c
      | succ f =>
       rw [← hr]; refine test_stop ?_ ?_ ?_ ?_ ?_ ?_ ?_
       ·show begins t2 = false
        unfold begins; rw [htx]
        rcases hkd with h | h <;> rw [h] <;> rfl
       all_goals (show (t2.text == _) = false; rw [htx]; rfl)
     ·rw [putC, if_pos hu, mayC, rsee_y hs, runC] at hg; rw [d1]; rw [show u.kid0 = kid by unfold Ex.kid0; rw [hkid]; rfl] at hg; rw [run_call] at hg; exact hg
   ·simp only [Bool.not_eq_true] at hs
    have hg2 : runC en (P en f) (testC (place en (ts.drop i)) u) r = O := by
     rw [putC, if_pos hu, mayC, rsee_n hs] at hg; exact hg
    refine Or.inl ⟨hg2, fun e r' h he => ?_⟩; rw [← hg2] at h; obtain ⟨_, rfl⟩ := test_kind h he; exact hs
  ·have hg2 : runC en (P en f) (testC (place en (ts.drop i)) u) r = O := by
    rw [putC, if_neg hu] at hg; exact hg
   refine Or.inl ⟨hg2, fun e r' h he => ?_⟩; rw [← hg2] at h; obtain ⟨rfl, _⟩ := test_kind h he; exact absurd he hu
end Go.Proofs.YtlkidgilhlpjhaaGreatDoor
