/-
  What Parse answers of any text, as a program in memory; what a shown text is to Tokens and Parse.
-/
import Derived.Test.YtkljakeccfnakaaGreatDoorUE
import Derived.Test.YtkljakeccfnakaaGreatDoorVF
import Derived.Test.YtkljakeccfnakaaGreatDoorWA
namespace Go.Proofs.YtkljakeccfnakaaGreatDoor
open Go.RowKit

/-- What was read of a text. -/
structure ReadP (l : List UInt8) (ds : List Dl) (es : List Px) : Prop where
  form : progB ds es = true
  names : ∀ d ∈ ds, d.name.length ≤ 16
  sz : ∀ x ∈ es, szX x ≤ 3000
  ex : ∃ ts de ee, lexT l = .ok ts ∧ parseO l.length ts = .ok (progE de ee) [] ∧ ds = de.map toD ∧ es = ee.map toX
mutual
theorem sz_toX : ∀ x : Ex, szX (toX x) = szE x
  | .mk k t o n p l => by simp only [toX, szE, szX, sz_toXL l]
theorem sz_toXL : ∀ l : List Ex, szXL (toXL l) = szL l
  | [] => rfl
  | e :: r => by simp only [toXL, szL, szXL, sz_toX e, sz_toXL r]
end
theorem doms_sz (en : Nat) : ∀ (f : Nat) (ds es : List Ex) (l : List Tok) (X : Ex) (r : List Tok) (M : Nat), 2 * l.length ≤ M → (∀ x ∈ es, szE x ≤ M) → P en f (.doms ds es) l = .ok X r → ∃ es', X = progE ds es' ∧ ∀ x ∈ es', szE x ≤ M
  | 0, _, _, _, _, _, _, _, _, h => by cases h
  | f + 1, ds, es, l, X, r, M, hM, he, h => by
    have go : runC en (P en f) (domC fun e => .call (.doms ds (es ++ [e])) .ret) l = .ok X r → ∃ es', X = progE ds es' ∧ ∀ x ∈ es', szE x ≤ M := by
      intro h
      obtain ⟨d, q, x, e, q2, e1, _, hx, _, _, h⟩ := domC_inv h
      obtain ⟨Y, q3, hY, h⟩ := call_inv h
      simp only [runC, Out.ok.injEq] at h
      obtain ⟨rfl, rfl⟩ := h
      subst e1
      have h1 := P_sz en f .seq _ _ _ rfl hx
      simp only [symSz, List.length_cons] at h1 hM
      refine doms_sz en f ds (es ++ [x]) q2 _ _ M (by omega) (fun y hy => ?_) hY
      rcases List.mem_append.1 hy with hy | hy
      · exact he y hy
      · rw [List.mem_singleton.1 hy]; omega
    have go2 : runC en (P en f) (if es.length = 3 then .see (isT [100, 111, 109, 97, 105, 110]) (.here .lim) (domC fun e => .call (.doms ds (es ++ [e])) .ret) else domC fun e => .call (.doms ds (es ++ [e])) .ret) l = .ok X r → ∃ es', X = progE ds es' ∧ ∀ x ∈ es', szE x ≤ M := by
      intro h
      split at h
      · simp only [runC] at h
        split at h
        · cases h
        · exact go h
      · exact go h
    have h : runC en (P en f) (domsC ds es) l = .ok X r := h
    dsimp only [domsC] at h
    split at h
    · exact go2 h
    · cases l with
      | nil =>
        simp only [runC, hd, Bool.false_eq_true, if_false, Out.ok.injEq] at h
        exact ⟨es, h.1.symm, he⟩
      | cons t q => exact go2 h
theorem kind_left {en : Nat} {Rr : Sym → List Tok → Out} {n : Nat} {k : Tok → Cmd} {ts r : List Tok} {x : Ex} (h : runC en Rr (kindC n k) ts = .ok x r) : ∃ t q, q.length ≤ ts.length ∧ runC en Rr (k t) q = .ok x r := by
  unfold kindC at h
  simp only [runC] at h
  split at h
  · cases ts with
    | nil => cases h
    | cons t q => exact ⟨t, q, by simp, h⟩
  · cases h
theorem may_left {en : Nat} {Rr : Sym → List Tok → Out} {s : List UInt8} {a b : Cmd} {ts r : List Tok} {x : Ex} (h : runC en Rr (mayC s a b) ts = .ok x r) : ∃ q, q.length ≤ ts.length ∧ (runC en Rr a q = .ok x r ∨ runC en Rr b q = .ok x r) := by
  unfold mayC at h
  simp only [runC] at h
  split at h
  · cases ts with
    | nil => cases h
    | cons t q => exact ⟨q, by simp, Or.inl h⟩
  · exact ⟨ts, Nat.le_refl _, Or.inr h⟩
theorem first_left {en : Nat} {Rr : Sym → List Tok → Out} {k : Int → Cmd} {ts r : List Tok} {x : Ex} (h : runC en Rr (firstC k) ts = .ok x r) : ∃ v q, q.length ≤ ts.length ∧ runC en Rr (k v) q = .ok x r := by
  obtain ⟨_, q, rfl, _, h⟩ := must_inv h
  obtain ⟨q1, l1, h | h⟩ := may_left h
  · obtain ⟨t, q2, l2, h⟩ := kind_left h; exact ⟨_, q2, by simp only [List.length_cons]; omega, h⟩
  · obtain ⟨t, q2, l2, h⟩ := kind_left h; exact ⟨_, q2, by simp only [List.length_cons]; omega, h⟩
theorem decl_left {en : Nat} {Rr : Sym → List Tok → Out} {k : Ex → Cmd} {ts r : List Tok} {x : Ex} (h : runC en Rr (declC k) ts = .ok x r) : ∃ d q, q.length ≤ ts.length ∧ runC en Rr (k d) q = .ok x r := by
  cases ts with
  | nil => cases h
  | cons t ts =>
    simp only [declC, runC] at h
    obtain ⟨n, q, l0, h⟩ := kind_left (show runC en Rr (kindC 1 _) ts = .ok x r from h)
    split at h
    · obtain ⟨v, q2, l2, h⟩ := first_left h; exact ⟨_, q2, by simp only [List.length_cons]; omega, h⟩
    · split at h
      · obtain ⟨v, q2, l2, h⟩ := first_left h; exact ⟨_, q2, by simp only [List.length_cons]; omega, h⟩
      · obtain ⟨u, q2, l2, h⟩ := kind_left h
        split at h
        · cases h
        · exact ⟨_, q2, by simp only [List.length_cons]; omega, h⟩
theorem decls_sz (en : Nat) : ∀ (f l : Nat) (ds : List Ex) (ts : List Tok) (X : Ex) (r : List Tok) (M : Nat), 2 * ts.length ≤ M → P en f (.decls l ds) ts = .ok X r → ∃ ds' es', X = progE ds' es' ∧ ∀ x ∈ es', szE x ≤ M
  | 0, _, _, _, _, _, _, _, h => by cases h
  | f + 1, l, ds, ts, X, r, M, hM, h => by
    have h : runC en (P en f) (declsC l ds) ts = .ok X r := h
    unfold declsC at h
    simp only [runC] at h
    split at h
    · split at h
      · cases h
      · obtain ⟨d, q, hl, h⟩ := decl_left h
        split at h
        · cases h
        · obtain ⟨Y, q3, hY, h⟩ := call_inv h
          simp only [runC, Out.ok.injEq] at h
          obtain ⟨rfl, rfl⟩ := h
          exact decls_sz en f _ _ _ _ _ M (by omega) hY
    · cases e : P en f (.doms ds []) ts with
      | ok Y q =>
        rw [e] at h
        simp only [Out.ok.injEq] at h
        obtain ⟨rfl, rfl⟩ := h
        obtain ⟨es', h1, h2⟩ := doms_sz en f ds [] ts _ _ M hM (by simp) e
        exact ⟨ds, es', h1, h2⟩
      | no q => rw [e] at h; cases h
      | lim p => rw [e] at h; cases h
      | out => rw [e] at h; cases h
theorem read_all {l : List UInt8} {ts : List Tok} {X : Ex} {r : List Tok} (h : lexT l = .ok ts) (hp : parseO l.length ts = .ok X r) : ∃ de ee, X = progE de ee ∧ ReadP l (de.map toD) (ee.map toX) := by
  obtain ⟨de, ee, rfl, hf⟩ := read_form h hp
  have hl := (lexT_parts h).2.2.1
  obtain ⟨d2, e2, h2, hs⟩ := decls_sz l.length _ 0 [] ts _ r 3000 (by omega) hp
  obtain ⟨rfl, rfl⟩ := progE_inj h2
  obtain ⟨_, _, _, rfl, _⟩ := decls_inv l.length _ 0 [] ts _ r hp
  refine ⟨de, ee, rfl, hf, fun d hd => ?_, fun x hx => ?_, ts, de, ee, h, hp, rfl, rfl⟩
  · have h8 := (decl_cases ((progB_iff.1 hf).hd d hd)).1
    unfold isNameB at h8
    simp only [Bool.and_eq_true, decide_eq_true_iff] at h8
    exact h8.1.2
  · obtain ⟨y, hy, rfl⟩ := List.mem_map.1 hx; rw [sz_toX]; exact hs y hy
theorem lexF_code (f : Nat) : ∀ (l : List UInt8) (p k c q : Nat), lexF f l p k = .err c q → c = 10 ∨ c = 15 := by
  induction f with
  | zero => intro l p k c q h; simp [lexF] at h
  | succ f ih =>
    intro l p k c q h
    unfold lexF at h
    split at h
    · cases h
    · split at h
      · exact ih _ _ _ _ _ h
      · cases h; exact Or.inl rfl
      · split at h
        · cases h; exact Or.inr rfl
        · rename_i n _ _
          cases e : lexF f (l.drop n) (p + n) (k + 1) with
          | ok us => rw [e] at h; cases h
          | err c2 q2 => rw [e] at h; simp only [Res.cons, Res.err.injEq] at h; rw [← h.1]; exact ih _ _ _ _ _ e
theorem lexT_code {l : List UInt8} {c q : Nat} (h : lexT l = .err c q) : c = 10 ∨ c = 15 := by
  unfold lexT at h
  split at h
  · cases h; exact Or.inr rfl
  · exact lexF_code _ _ _ _ _ _ h
/-- What Parse answers: a program in memory, or an error. -/
theorem parseP_any (s : List UInt8) (w : World) (hs : s.length ≤ 140737488351232) : Calls Tryz.prog 15 #[.string ⟨s.toArray⟩] w fun e w' =>
    ((∃ a1 n1 c1 a2 n2 c2 ds es, e = .returned (.tuple #[.agg #[.slice a1 n1 c1, .slice a2 n2 c2], .int .i64 0, .int .i64 0]) ∧ n1 = ds.length ∧ n2 = es.length ∧ PV w'.heap.size w' (.agg #[.slice a1 n1 c1, .slice a2 n2 c2]) ds es ∧ ReadP s ds es) ∨
     (∃ c p : Nat, e = .returned (.tuple #[.agg #[.slice none 0 0, .slice none 0 0], .int .i64 (c : Int), .int .i64 (p : Int)]) ∧ c ≠ 0 ∧ ∀ ts X r, lexT s = .ok ts → parseO s.length ts ≠ .ok X r)) ∧ Below w.heap.size w w' := by
  refine (parseC_holds.parse ⟨s.toArray⟩ w (by rw [Lib.size_eq]; exact hs)).mono fun e w' ⟨⟨v, c, p, he, h⟩, hb⟩ => ⟨?_, hb⟩
  unfold ParseA at h
  dsimp only at h
  cases hl : lexT s with
  | err c2 p2 =>
    rw [hl] at h
    dsimp only at h
    obtain ⟨rfl, rfl, rfl⟩ := h
    exact Or.inr ⟨c, p, he, by have := lexT_code hl; omega, fun ts X r e => by cases e⟩
  | ok ts =>
    rw [hl] at h
    dsimp only at h
    cases hp : parseO s.length ts with
    | ok X r =>
      rw [hp] at h
      dsimp only at h
      obtain ⟨rfl, rfl, de, ee, rfl, hv⟩ := h
      obtain ⟨d2, e2, h2, hr⟩ := read_all hl hp
      obtain ⟨rfl, rfl⟩ := progE_inj h2
      have hv2 := pr_pv hv (fun d hd => by have := hr.names (toD d) (List.mem_map_of_mem hd); show (toD d).name.length ≤ _; omega) (fun x hx => ((progB_iff.1 hr.form).hx (toX x) (List.mem_map_of_mem hx)).1)
      obtain ⟨a1, c1, a2, c2, rfl, h3, h4⟩ := hv2
      exact Or.inl ⟨a1, _, c1, a2, _, c2, _, _, he, rfl, rfl, ⟨a1, c1, a2, c2, rfl, h3, h4⟩, hr⟩
    | no r =>
      rw [hp] at h
      obtain ⟨rfl, rfl, rfl⟩ := h
      exact Or.inr ⟨11, _, he, by omega, fun ts2 X q e e2 => by cases e; rw [hp] at e2; cases e2⟩
    | lim q =>
      rw [hp] at h
      obtain ⟨rfl, rfl, rfl⟩ := h
      exact Or.inr ⟨15, _, he, by omega, fun ts2 X q e e2 => by cases e; rw [hp] at e2; cases e2⟩
    | out => rw [hp] at h; exact h.elim
end Go.Proofs.YtkljakeccfnakaaGreatDoor
