/-
  What is read of a text is no greater than some; a shown text is read as the program, as laws ask; no program is named here.
-/
import Derived.Test.YtkljakeccfnakaaGreatDoorVE
import Derived.Test.YtkljakeccfnakaaGreatDoorHP
namespace Go.Proofs.YtkljakeccfnakaaGreatDoor

def symSz : Sym → Nat
  | .appL _ a => szE a
  | .prodL _ a => szE a
  | .sumL _ a => szE a
  | _ => 0
def eatN (s : Sym) : Nat := if eats s = true then 1 else 0
/-- Whatever is made within c has at most n parts more than two for each word that it takes. -/
inductive Zp (d : Nat) : Nat → Cmd → Prop
  | ret {n : Nat} {x : Ex} : szE x + d ≤ n → Zp d n (.ret x)
  | stop (n : Nat) : Zp d n .stop
  | lim (n p : Nat) : Zp d n (.lim p)
  | see {n : Nat} {p : Tok → Bool} {a b : Cmd} : Zp d n a → Zp d n b → Zp d n (.see p a b)
  | see2 {n : Nat} {p : Tok → Bool} {a b : Cmd} : Zp d n a → Zp d n b → Zp d n (.see2 p a b)
  | here {n : Nat} {k : Nat → Cmd} : (∀ p, Zp d n (k p)) → Zp d n (.here k)
  | take {n : Nat} {k : Tok → Cmd} : (∀ t, Zp d (n + 2) (k t)) → Zp d n (.take k)
  | call {n : Nat} {s : Sym} {k : Ex → Cmd} : small' s = true → (∀ x, 1 ≤ szE x → Zp d (n + (szE x + eatN s - symSz s)) (k x)) → Zp d n (.call s k)
theorem szE_pos (x : Ex) : 1 ≤ szE x := by cases x; simp only [szE]; omega
theorem run_sz {en : Nat} {R : Sym → List Tok → Out} (hR : ∀ s ts x r, small' s = true → R s ts = .ok x r → szE x + eatN s + 2 * r.length ≤ symSz s + 2 * ts.length) (hL : ∀ s ts x r, R s ts = .ok x r → r.length ≤ ts.length) {n : Nat} {c : Cmd} {d : Nat} (hc : Zp d n c) :
    ∀ {m : Nat} {ts : List Tok} {x : Ex} {r : List Tok}, n ≤ m → runC en R c ts = .ok x r → szE x + d + 2 * r.length ≤ m + 2 * ts.length := by
  induction hc with
  | ret h => intro m ts x r hm e; simp only [runC, Out.ok.injEq] at e; obtain ⟨rfl, rfl⟩ := e; omega
  | stop => intro m ts x r _ e; cases e
  | lim => intro m ts x r _ e; cases e
  | see _ _ ha hb =>
    intro m ts x r hm e
    simp only [runC] at e
    split at e
    · exact ha hm e
    · exact hb hm e
  | see2 _ _ ha hb =>
    intro m ts x r hm e
    simp only [runC] at e
    split at e
    · exact ha hm e
    · exact hb hm e
  | here _ ih => intro m ts x r hm e; exact ih _ hm e
  | take _ ih =>
    intro m ts x r hm e
    cases ts with
    | nil => cases e
    | cons t q => have := ih t (m := m + 2) (by omega) e; rw [List.length_cons]; omega
  | @call n s k hs _ ih =>
    intro m ts x r hm e
    simp only [runC] at e
    cases e2 : R s ts with
    | ok y q =>
      rw [e2] at e
      have h1 := hR s ts y q hs e2
      have h3 := hL s ts y q e2
      have h2 := ih y (szE_pos y) (m := m + (szE y + eatN s - symSz s)) (by omega) e
      omega
    | no q => rw [e2] at e; cases e
    | lim p => rw [e2] at e; cases e
    | out => rw [e2] at e; cases e
theorem zp_if {d : Nat} {n : Nat} {p : Prop} [Decidable p] {a b : Cmd} (ha : Zp d n a) (hb : Zp d n b) : Zp d n (if p then a else b) := by
  split
  · exact ha
  · exact hb
theorem zp_unitK {d : Nat} {n : Nat} {k : Nat → Ex → Cmd} (h : ∀ q u, 1 ≤ szE u → Zp d (n + szE u + 1) (k q u)) : Zp d n (unitK k) := .here fun q => .call rfl fun u hu => by
  have := h q u hu
  simpa [eatN, eats, symSz, Nat.add_assoc] using this
theorem zp_eat {d : Nat} {n : Nat} {s : Sym} {k : Ex → Cmd} (hs : small' s = true) (he : eats s = true) (h0 : symSz s = 0) (h : ∀ x, 1 ≤ szE x → Zp d (n + szE x + 1) (k x)) : Zp d n (.call s k) := .call hs fun u hu => by
  have := h u hu
  unfold eatN
  rw [if_pos he, h0]
  simpa [Nat.add_assoc] using this
theorem zp_loop {d : Nat} {n : Nat} {s : Sym} {k : Ex → Cmd} (hs : small' s = true) (he : eats s = false) (h : ∀ x, 1 ≤ szE x → Zp d (n + (szE x - symSz s)) (k x)) : Zp d n (.call s k) := .call hs fun u hu => by
  have := h u hu
  unfold eatN
  rw [he]
  exact this
theorem kid0_sz (u : Ex) : szE u.kid0 ≤ szE u := by
  obtain ⟨k, t, o, n, p, l⟩ := u
  cases l with
  | nil => simp only [Ex.kid0, Ex.kids, List.headD, Ex.none, szE, szL]; omega
  | cons a r => simp only [Ex.kid0, Ex.kids, List.headD, szE, szL]; omega
theorem zp_put {d : Nat} {n p : Nat} {u g : Ex} {t : List UInt8} (h : szE u + szE g + 1 + d ≤ n) : Zp d n (.ret (.mk 13 t [] 0 p [u.kid0, g])) := .ret (by have := kid0_sz u; simp only [szE, szL]; omega)
theorem sz0 {d : Nat} {k p n : Nat} {t o : List UInt8} {i : Int} (h : 1 + d ≤ n) : Zp d n (.ret (.mk k t o i p [])) := .ret (by simp only [szE, szL]; omega)
theorem sz1 {d : Nat} {k p n : Nat} {t o : List UInt8} {i : Int} {a : Ex} (h : szE a + 1 + d ≤ n) : Zp d n (.ret (.mk k t o i p [a])) := .ret (by simp only [szE, szL]; omega)
theorem sz2 {d : Nat} {k p n : Nat} {t o : List UInt8} {i : Int} {a b : Ex} (h : szE a + szE b + 1 + d ≤ n) : Zp d n (.ret (.mk k t o i p [a, b])) := .ret (by simp only [szE, szL]; omega)
theorem sz3 {d : Nat} {k p n : Nat} {t o : List UInt8} {i : Int} {a b c : Ex} (h : szE a + szE b + szE c + 1 + d ≤ n) : Zp d n (.ret (.mk k t o i p [a, b, c])) := .ret (by simp only [szE, szL]; omega)
theorem unitE_sz (p : Nat) : szE (unitE p) = 1 := rfl
theorem join_sz {k p : Nat} {t : List UInt8} {a b : Ex} : szE (joinE k t p a b) = szE a + szE b + 1 := by simp only [joinE, szE, szL]; omega
theorem zp_body : ∀ s : Sym, small' s = true → Zp (eatN s) (symSz s) (body s)
  | .seq, _ => by
    show Zp 1 0 seqC
    repeat first
      | exact Zp.stop _ | exact Zp.lim _ _
      | exact zp_put (by first | omega | (simp only [symSz]; omega) | (simp only [symSz, join_sz]; omega) | (simp only [join_sz]; omega) | (simp only [unitE_sz]; omega))
      | exact sz0 (by first | omega | (simp only [symSz]; omega) | (simp only [symSz, join_sz]; omega) | (simp only [join_sz]; omega) | (simp only [unitE_sz]; omega))
      | exact sz1 (by first | omega | (simp only [symSz]; omega) | (simp only [symSz, join_sz]; omega) | (simp only [join_sz]; omega) | (simp only [unitE_sz]; omega))
      | exact sz2 (by first | omega | (simp only [symSz]; omega) | (simp only [symSz, join_sz]; omega) | (simp only [join_sz]; omega) | (simp only [unitE_sz]; omega))
      | exact sz3 (by first | omega | (simp only [symSz]; omega) | (simp only [symSz, join_sz]; omega) | (simp only [join_sz]; omega) | (simp only [unitE_sz]; omega))
      | exact Zp.ret (by first | omega | (simp only [symSz]; omega) | (simp only [symSz, join_sz]; omega) | (simp only [join_sz]; omega) | (simp only [unitE_sz]; omega))
      | refine zp_unitK fun _ _ _ => ?_
      | refine zp_if ?_ ?_
      | refine Zp.see ?_ ?_ | refine Zp.see2 ?_ ?_ | refine Zp.here fun _ => ?_ | refine Zp.take fun _ => ?_
      | refine zp_eat rfl rfl rfl fun _ _ => ?_
      | refine zp_loop rfl rfl fun _ _ => ?_
  | .expr, _ => by
    show Zp 1 0 exprC
    repeat first
      | exact Zp.stop _ | exact Zp.lim _ _
      | exact zp_put (by first | omega | (simp only [symSz]; omega) | (simp only [symSz, join_sz]; omega) | (simp only [join_sz]; omega) | (simp only [unitE_sz]; omega))
      | exact sz0 (by first | omega | (simp only [symSz]; omega) | (simp only [symSz, join_sz]; omega) | (simp only [join_sz]; omega) | (simp only [unitE_sz]; omega))
      | exact sz1 (by first | omega | (simp only [symSz]; omega) | (simp only [symSz, join_sz]; omega) | (simp only [join_sz]; omega) | (simp only [unitE_sz]; omega))
      | exact sz2 (by first | omega | (simp only [symSz]; omega) | (simp only [symSz, join_sz]; omega) | (simp only [join_sz]; omega) | (simp only [unitE_sz]; omega))
      | exact sz3 (by first | omega | (simp only [symSz]; omega) | (simp only [symSz, join_sz]; omega) | (simp only [join_sz]; omega) | (simp only [unitE_sz]; omega))
      | exact Zp.ret (by first | omega | (simp only [symSz]; omega) | (simp only [symSz, join_sz]; omega) | (simp only [join_sz]; omega) | (simp only [unitE_sz]; omega))
      | refine zp_unitK fun _ _ _ => ?_
      | refine zp_if ?_ ?_
      | refine Zp.see ?_ ?_ | refine Zp.see2 ?_ ?_ | refine Zp.here fun _ => ?_ | refine Zp.take fun _ => ?_
      | refine zp_eat rfl rfl rfl fun _ _ => ?_
      | refine zp_loop rfl rfl fun _ _ => ?_
  | .unit, _ => by
    show Zp 1 0 (.see begins (.take unitT) .stop)
    repeat first
      | exact Zp.stop _ | exact Zp.lim _ _
      | exact zp_put (by first | omega | (simp only [symSz]; omega) | (simp only [symSz, join_sz]; omega) | (simp only [join_sz]; omega) | (simp only [unitE_sz]; omega))
      | exact sz0 (by first | omega | (simp only [symSz]; omega) | (simp only [symSz, join_sz]; omega) | (simp only [join_sz]; omega) | (simp only [unitE_sz]; omega))
      | exact sz1 (by first | omega | (simp only [symSz]; omega) | (simp only [symSz, join_sz]; omega) | (simp only [join_sz]; omega) | (simp only [unitE_sz]; omega))
      | exact sz2 (by first | omega | (simp only [symSz]; omega) | (simp only [symSz, join_sz]; omega) | (simp only [join_sz]; omega) | (simp only [unitE_sz]; omega))
      | exact sz3 (by first | omega | (simp only [symSz]; omega) | (simp only [symSz, join_sz]; omega) | (simp only [join_sz]; omega) | (simp only [unitE_sz]; omega))
      | exact Zp.ret (by first | omega | (simp only [symSz]; omega) | (simp only [symSz, join_sz]; omega) | (simp only [join_sz]; omega) | (simp only [unitE_sz]; omega))
      | refine zp_unitK fun _ _ _ => ?_
      | refine zp_if ?_ ?_
      | refine Zp.see ?_ ?_ | refine Zp.see2 ?_ ?_ | refine Zp.here fun _ => ?_ | refine Zp.take fun _ => ?_
      | refine zp_eat rfl rfl rfl fun _ _ => ?_
      | refine zp_loop rfl rfl fun _ _ => ?_
  | .appL p a, _ => by
    show Zp 0 (szE a) (.see begins (.call .unit fun u => .call (.appL p (joinE 8 [] p a u)) .ret) (.ret a))
    repeat first
      | exact Zp.stop _ | exact Zp.lim _ _
      | exact zp_put (by first | omega | (simp only [symSz]; omega) | (simp only [symSz, join_sz]; omega) | (simp only [join_sz]; omega) | (simp only [unitE_sz]; omega))
      | exact sz0 (by first | omega | (simp only [symSz]; omega) | (simp only [symSz, join_sz]; omega) | (simp only [join_sz]; omega) | (simp only [unitE_sz]; omega))
      | exact sz1 (by first | omega | (simp only [symSz]; omega) | (simp only [symSz, join_sz]; omega) | (simp only [join_sz]; omega) | (simp only [unitE_sz]; omega))
      | exact sz2 (by first | omega | (simp only [symSz]; omega) | (simp only [symSz, join_sz]; omega) | (simp only [join_sz]; omega) | (simp only [unitE_sz]; omega))
      | exact sz3 (by first | omega | (simp only [symSz]; omega) | (simp only [symSz, join_sz]; omega) | (simp only [join_sz]; omega) | (simp only [unitE_sz]; omega))
      | exact Zp.ret (by first | omega | (simp only [symSz]; omega) | (simp only [symSz, join_sz]; omega) | (simp only [join_sz]; omega) | (simp only [unitE_sz]; omega))
      | refine zp_unitK fun _ _ _ => ?_
      | refine zp_if ?_ ?_
      | refine Zp.see ?_ ?_ | refine Zp.see2 ?_ ?_ | refine Zp.here fun _ => ?_ | refine Zp.take fun _ => ?_
      | refine zp_eat rfl rfl rfl fun _ _ => ?_
      | refine zp_loop rfl rfl fun _ _ => ?_
  | .prodL p a, _ => by
    show Zp 0 (szE a) (.see (fun t => isT [42] t || isT [47] t) (.take fun t => unitK fun q u => .call (.appL q u) fun b => .call (.prodL p (joinE 21 t.text p a b)) .ret) (.ret a))
    repeat first
      | exact Zp.stop _ | exact Zp.lim _ _
      | exact zp_put (by first | omega | (simp only [symSz]; omega) | (simp only [symSz, join_sz]; omega) | (simp only [join_sz]; omega) | (simp only [unitE_sz]; omega))
      | exact sz0 (by first | omega | (simp only [symSz]; omega) | (simp only [symSz, join_sz]; omega) | (simp only [join_sz]; omega) | (simp only [unitE_sz]; omega))
      | exact sz1 (by first | omega | (simp only [symSz]; omega) | (simp only [symSz, join_sz]; omega) | (simp only [join_sz]; omega) | (simp only [unitE_sz]; omega))
      | exact sz2 (by first | omega | (simp only [symSz]; omega) | (simp only [symSz, join_sz]; omega) | (simp only [join_sz]; omega) | (simp only [unitE_sz]; omega))
      | exact sz3 (by first | omega | (simp only [symSz]; omega) | (simp only [symSz, join_sz]; omega) | (simp only [join_sz]; omega) | (simp only [unitE_sz]; omega))
      | exact Zp.ret (by first | omega | (simp only [symSz]; omega) | (simp only [symSz, join_sz]; omega) | (simp only [join_sz]; omega) | (simp only [unitE_sz]; omega))
      | refine zp_unitK fun _ _ _ => ?_
      | refine zp_if ?_ ?_
      | refine Zp.see ?_ ?_ | refine Zp.see2 ?_ ?_ | refine Zp.here fun _ => ?_ | refine Zp.take fun _ => ?_
      | refine zp_eat rfl rfl rfl fun _ _ => ?_
      | refine zp_loop rfl rfl fun _ _ => ?_
  | .sumL p a, _ => by
    show Zp 0 (szE a) (.see (fun t => isT [43] t || isT [45] t) (.take fun t => unitK fun q u => prodK q u fun b => .call (.sumL p (joinE 21 t.text p a b)) .ret) (.ret a))
    repeat first
      | exact Zp.stop _ | exact Zp.lim _ _
      | exact zp_put (by first | omega | (simp only [symSz]; omega) | (simp only [symSz, join_sz]; omega) | (simp only [join_sz]; omega) | (simp only [unitE_sz]; omega))
      | exact sz0 (by first | omega | (simp only [symSz]; omega) | (simp only [symSz, join_sz]; omega) | (simp only [join_sz]; omega) | (simp only [unitE_sz]; omega))
      | exact sz1 (by first | omega | (simp only [symSz]; omega) | (simp only [symSz, join_sz]; omega) | (simp only [join_sz]; omega) | (simp only [unitE_sz]; omega))
      | exact sz2 (by first | omega | (simp only [symSz]; omega) | (simp only [symSz, join_sz]; omega) | (simp only [join_sz]; omega) | (simp only [unitE_sz]; omega))
      | exact sz3 (by first | omega | (simp only [symSz]; omega) | (simp only [symSz, join_sz]; omega) | (simp only [join_sz]; omega) | (simp only [unitE_sz]; omega))
      | exact Zp.ret (by first | omega | (simp only [symSz]; omega) | (simp only [symSz, join_sz]; omega) | (simp only [join_sz]; omega) | (simp only [unitE_sz]; omega))
      | refine zp_unitK fun _ _ _ => ?_
      | refine zp_if ?_ ?_
      | refine Zp.see ?_ ?_ | refine Zp.see2 ?_ ?_ | refine Zp.here fun _ => ?_ | refine Zp.take fun _ => ?_
      | refine zp_eat rfl rfl rfl fun _ _ => ?_
      | refine zp_loop rfl rfl fun _ _ => ?_
  | .decls _ _, h => by cases h
  | .doms _ _, h => by cases h
theorem P_sz (en : Nat) : ∀ (f : Nat) (s : Sym) (ts : List Tok) (x : Ex) (r : List Tok), small' s = true → P en f s ts = .ok x r → szE x + eatN s + 2 * r.length ≤ symSz s + 2 * ts.length
  | 0, _, _, _, _, _, h => by cases h
  | f + 1, s, _, _, _, hs, h => run_sz (P_sz en f) (fun s ts x r e => by have := P_left en f s ts; rw [e] at this; exact this) (zp_body s hs) (Nat.le_refl _) h
end Go.Proofs.YtkljakeccfnakaaGreatDoor
