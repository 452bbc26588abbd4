/-
  A shown program's text is read as that program; no program is named here.
-/
import Derived.Test.YtkljakeccfnakaaGreatDoorVC
namespace Go.Proofs.YtkljakeccfnakaaGreatDoor

/-- The words of a declaration. -/
def tkF (n : Int) : List Tok := if n < 0 then [tS [45], tV (-n).toNat] else [tV n.toNat]
def tkD (d : Dl) : List Tok :=
  if d.kind = 1 then tW [99, 101, 108, 108] :: tN d.name :: tS [61] :: tkF d.n
  else if d.kind = 2 then tW [97, 116, 111, 109] :: tN d.name :: tS [61] :: tkF d.n
  else [tW [114, 111, 119], tN d.name, tV d.n.toNat]
def tkM (x : Px) : List Tok := tW [100, 111, 109, 97, 105, 110] :: (tkX x ++ [tW [101, 110, 100]])
def tkP (ds : List Dl) (es : List Px) : List Tok := (ds.map tkD).flatten ++ (es.map tkM).flatten
def toED (d : Dl) : Ex := .mk d.kind.toNat d.name [] d.n 0 []
/-- What is asked of a declaration, kind by kind. -/
theorem decl_cases {d : Dl} (h : declB d = true) : isNameB d.name = true ∧ (((d.kind = 1 ∨ d.kind = 2) ∧ -999999999 ≤ d.n ∧ d.n ≤ 999999999) ∨ (d.kind = 3 ∧ 1 ≤ d.n ∧ d.n ≤ 8)) := by
  unfold declB at h
  rw [Bool.and_eq_true] at h
  refine ⟨h.1, ?_⟩
  have h2 := h.2
  by_cases c : d.kind = 1 ∨ d.kind = 2
  · left
    rw [if_pos (by rcases c with c | c <;> rw [c] <;> rfl)] at h2
    simp only [Bool.and_eq_true, decide_eq_true_iff] at h2
    exact ⟨c, h2⟩
  · right
    rw [if_neg (by simp only [Bool.or_eq_true, beq_iff_eq]; exact c)] at h2
    by_cases c3 : d.kind = 3
    · rw [if_pos (by rw [c3]; rfl)] at h2
      simp only [Bool.and_eq_true, decide_eq_true_iff] at h2
      exact ⟨c3, h2⟩
    · rw [if_neg (by simp only [beq_iff_eq]; exact c3)] at h2
      cases h2
theorem sp_first {n : Int} (h1 : -999999999 ≤ n) (h2 : n ≤ 999999999) {r : List UInt8} {us : List Tok} (hr : Cut r) (h : Spell r us) : Spell (firstT n ++ r) (tkF n ++ us) := by
  unfold firstT tkF
  by_cases c : n < 0
  · rw [if_pos c, if_pos c, itoa_nat (by omega)]
    exact sp_apart (by decide) (sp_blank (sp_num (by omega) hr h))
  · rw [if_neg c, if_neg c, itoa_nat (by omega)]
    exact sp_num (by omega) hr h
theorem sp_decl {d : Dl} (hd : declB d = true) {r : List UInt8} {us : List Tok} (h : Spell r us) : Spell (shwD d ++ [10] ++ r) (tkD d ++ us) := by
  obtain ⟨hn, hc⟩ := decl_cases hd
  have h2 : Spell (10 :: r) us := sp_line h
  unfold shwD tkD
  rcases hc with ⟨k | k, h3, h4⟩ | ⟨k, h3, h4⟩
  · rw [if_pos k, if_pos k]
    simp only [List.append_assoc, List.cons_append, List.nil_append]
    exact sp_key [99, 101, 108, 108] (by decide) (cut_cons rfl) (sp_blank (sp_name hn (cut_cons rfl) (sp_blank (sp_lone (by decide) (sp_blank (sp_first h3 h4 (cut_cons rfl) h2))))))
  · rw [if_neg (by rw [k]; decide), if_pos k, if_neg (by rw [k]; decide), if_pos k]
    simp only [List.append_assoc, List.cons_append, List.nil_append]
    exact sp_key [97, 116, 111, 109] (by decide) (cut_cons rfl) (sp_blank (sp_name hn (cut_cons rfl) (sp_blank (sp_lone (by decide) (sp_blank (sp_first h3 h4 (cut_cons rfl) h2))))))
  · rw [if_neg (by rw [k]; decide), if_neg (by rw [k]; decide), if_neg (by rw [k]; decide), if_neg (by rw [k]; decide), itoa_nat (by omega)]
    simp only [List.append_assoc, List.cons_append, List.nil_append]
    exact sp_key [114, 111, 119] (by decide) (cut_cons rfl) (sp_blank (sp_name hn (cut_cons rfl) (sp_blank (sp_num (by omega) (cut_cons rfl) h2))))
theorem sp_dom {x : Px} (hx : Shape x) {r : List UInt8} {us : List Tok} (h : Spell r us) : Spell (domT x ++ r) (tkM x ++ us) := by
  unfold domT tkM
  simp only [List.append_assoc, List.cons_append, List.nil_append]
  exact sp_key [100, 111, 109, 97, 105, 110] (by decide) (cut_cons rfl) (sp_blank (shape_spx hx _ _ (cut_cons rfl) (sp_blank (sp_key [101, 110, 100] (by decide) (cut_cons rfl) (sp_line h)))))
theorem sp_doms : ∀ (es : List Px), (∀ x ∈ es, Shape x) → Spell (es.map domT).flatten (es.map tkM).flatten
  | [], _ => .nil
  | x :: r, h => by
    rw [List.map_cons, List.flatten_cons, List.map_cons, List.flatten_cons]
    exact sp_dom (h x (by simp)) (sp_doms r fun y hy => h y (by simp [hy]))
theorem sp_decls (es : List Px) (he : ∀ x ∈ es, Shape x) : ∀ (ds : List Dl), (∀ d ∈ ds, declB d = true) → Spell ((ds.map fun d => shwD d ++ [10]).flatten ++ (es.map domT).flatten) (tkP ds es)
  | [], _ => sp_doms es he
  | d :: r, h => by
    have h2 := sp_decl (h d (by simp)) (sp_decls es he r fun y hy => h y (by simp [hy]))
    unfold tkP at h2 ⊢
    rw [List.map_cons, List.flatten_cons, List.map_cons, List.flatten_cons]
    simpa only [List.append_assoc] using h2
structure ProgP (ds : List Dl) (es : List Px) : Prop where
  d8 : ds.length ≤ 8
  e1 : 1 ≤ es.length
  e3 : es.length ≤ 3
  hd : ∀ d ∈ ds, declB d = true
  hx : ∀ x ∈ es, wfX x = true ∧ deepX x ≤ 60
  locs : sizesD ds ≤ 16
theorem progB_iff {ds : List Dl} {es : List Px} : progB ds es = true ↔ ProgP ds es := by
  unfold progB formB
  simp only [Bool.and_eq_true, decide_eq_true_iff, List.all_eq_true]
  exact ⟨fun ⟨⟨⟨⟨⟨a, b⟩, c⟩, d⟩, e⟩, f⟩ => ⟨a, b, c, d, e, f⟩, fun ⟨a, b, c, d, e, f⟩ => ⟨⟨⟨⟨⟨a, b⟩, c⟩, d⟩, e⟩, f⟩⟩
theorem shown_spell {ds : List Dl} {es : List Px} (h : progB ds es = true) : Spell (shwP ds es) (tkP ds es) :=
  sp_decls es (fun x hx => shape_of x ((progB_iff.1 h).hx x hx).1) ds (progB_iff.1 h).hd

/-! What is read of the words. -/
mutual
theorem deep_toE : ∀ x : Px, deepE (toE x) = deepX x
  | .mk k t o n p l => by simp only [toE, deepE, deepX, deep_toEL l]
theorem deep_toEL : ∀ l : List Px, deepL (toEL l) = deepXL l
  | [] => rfl
  | e :: r => by simp only [toEL, deepL, deepXL, deep_toE e, deep_toEL r]
end
theorem ev_doms (en : Nat) (ds : List Ex) : ∀ (es : List Px) (es0 : List Ex), (∀ x ∈ es, wfX x = true ∧ deepX x ≤ 60) → es0.length + es.length ≤ 3 → 1 ≤ es0.length + es.length → Ev en (.doms ds es0) (es.map tkM).flatten (.ok (progE ds (es0 ++ es.map toE)) [])
  | [], es0, _, _, h1 => by
    simp only [List.map_nil, List.flatten_nil, List.append_nil]
    refine .of ?_
    show EvC en (domsC ds es0) [] _
    unfold domsC
    rw [if_neg (by simp at h1; omega)]
    exact .nay rfl (.ret _ _)
  | x :: r, es0, h, h3, _ => by
    have hx := h x (by simp)
    have X := read_unit (shape_of x hx.1)
    have ih := ev_doms en ds r (es0 ++ [toE x]) (fun y hy => h y (by simp [hy])) (by simp only [List.length_append, List.length_cons, List.length_nil] at *; omega) (by simp only [List.length_append, List.length_cons, List.length_nil]; omega)
    rw [List.append_assoc] at ih
    have hgo : EvC en (domC fun e => .call (.doms ds (es0 ++ [e])) .ret) ((x :: r).map tkM).flatten (.ok (progE ds (es0 ++ (x :: r).map toE)) []) := by
      rw [List.map_cons, List.flatten_cons]
      unfold tkM
      simp only [List.append_assoc, List.cons_append, List.nil_append]
      refine .yes rfl (.take (.call (X.seq rfl rfl) (.yes rfl (.take ?_))))
      rw [if_neg (by rw [deep_toE]; omega)]
      exact .call ih (.ret _ _)
    refine .of ?_
    show EvC en (domsC ds es0) _ _
    dsimp only [domsC]
    rw [if_neg (show ¬ es0.length = 3 by simp only [List.length_cons] at h3; omega)]
    by_cases c : es0.length = 0
    · rw [if_pos c]; exact hgo
    · rw [if_neg c]; exact .yes (by rw [List.map_cons, List.flatten_cons]; rfl) hgo
theorem ev_first {en : Nat} {n : Int} {k : Int → Cmd} {r : List Tok} {o : Out} (h : EvC en (k n) r o) : EvC en (firstC k) (tS [61] :: (tkF n ++ r)) o := by
  refine .yes rfl (.take ?_)
  unfold tkF
  by_cases c : n < 0
  · rw [if_pos c]
    refine .yes rfl (.take (.yes rfl (.take ?_)))
    have e : -(((tV (-n).toNat).val : Nat) : Int) = n := by show -(((-n).toNat : Nat) : Int) = n; omega
    rw [e]
    exact h
  · rw [if_neg c]
    refine .nay ?_ (.yes rfl (.take ?_))
    · exact dec_ne (by decide)
    · have e : (((tV n.toNat).val : Nat) : Int) = n := by show ((n.toNat : Nat) : Int) = n; omega
      rw [e]
      exact h
theorem size_toED {d : Dl} (h : declB d = true) : sizeE (toED d) = (sizeD d).toNat ∧ 0 ≤ sizeD d := by
  obtain ⟨_, hc⟩ := decl_cases h
  unfold sizeE sizeD toED
  simp only [Ex.kind, Ex.n]
  rcases hc with ⟨k | k, _⟩ | ⟨k, h1, _⟩
  · rw [k]; exact ⟨rfl, show (0 : Int) ≤ 1 by decide⟩
  · rw [k]; exact ⟨rfl, show (0 : Int) ≤ 1 by decide⟩
  · rw [k]; exact ⟨rfl, by show 0 ≤ d.n; omega⟩
theorem ev_decl {en : Nat} {d : Dl} (hd : declB d = true) {k : Ex → Cmd} {r : List Tok} {o : Out} (h : EvC en (k (toED d)) r o) : EvC en (declC k) (tkD d ++ r) o := by
  obtain ⟨hn, hc⟩ := decl_cases hd
  unfold tkD declC
  unfold toED at h
  rcases hc with ⟨e | e, h3, h4⟩ | ⟨e, h3, h4⟩
  · rw [if_pos e]
    refine .take (.yes rfl (.take ?_))
    dsimp only
    rw [if_pos (show (tW [99, 101, 108, 108]).text = [99, 101, 108, 108] from rfl)]
    rw [e] at h
    exact ev_first h
  · rw [if_neg (by rw [e]; decide), if_pos e]
    refine .take (.yes rfl (.take ?_))
    dsimp only
    rw [if_neg (show ¬ (tW [97, 116, 111, 109]).text = [99, 101, 108, 108] by decide), if_pos (show (tW [97, 116, 111, 109]).text = [97, 116, 111, 109] from rfl)]
    rw [e] at h
    exact ev_first h
  · rw [if_neg (by rw [e]; decide), if_neg (by rw [e]; decide)]
    refine .take (.yes rfl (.take ?_))
    dsimp only
    rw [if_neg (show ¬ (tW [114, 111, 119]).text = [99, 101, 108, 108] by decide), if_neg (show ¬ (tW [114, 111, 119]).text = [97, 116, 111, 109] by decide)]
    refine .yes rfl (.take ?_)
    rw [if_neg (show ¬ ((tV d.n.toNat).val < 1 ∨ 8 < (tV d.n.toNat).val) by show ¬ (d.n.toNat < 1 ∨ 8 < d.n.toNat); omega)]
    have e2 : ((tV d.n.toNat).val : Int) = d.n := by show ((d.n.toNat : Nat) : Int) = d.n; omega
    rw [e2]
    rw [e] at h
    exact h
theorem sizes_cons (d : Dl) (ds : List Dl) : sizesD (d :: ds) = sizeD d + sizesD ds := by
  have : ∀ (l : List Dl) (a : Int), l.foldl (fun a d => a + sizeD d) a = a + sizesD l := by
    intro l
    induction l with
    | nil => intro a; simp [sizesD]
    | cons x r ih => intro a; simp only [sizesD, List.foldl_cons]; rw [ih, ih (0 + sizeD x)]; omega
  show List.foldl _ (0 + sizeD d) ds = _
  rw [this]; omega
theorem sizes_pos : ∀ {ds : List Dl}, (∀ d ∈ ds, declB d = true) → 0 ≤ sizesD ds
  | [], _ => by decide
  | d :: r, h => by rw [sizes_cons]; have := (size_toED (h d (by simp))).2; have := sizes_pos (ds := r) fun y hy => h y (by simp [hy]); omega
theorem decl_head {d : Dl} (h : declB d = true) (r : List Tok) : hd isDecl (tkD d ++ r) = true := by
  obtain ⟨_, hc⟩ := decl_cases h
  unfold tkD
  rcases hc with ⟨e | e, _⟩ | ⟨e, _⟩ <;> rw [e] <;> rfl
theorem ev_decls (en : Nat) {tail : List Tok} (ht : hd isDecl tail = false) {X : Ex} : ∀ (ds : List Dl) (ds0 : List Ex) (locs : Nat), (∀ d ∈ ds, declB d = true) → ds0.length + ds.length ≤ 8 → (locs : Int) + sizesD ds ≤ 16 → Ev en (.doms (ds0 ++ ds.map toED) []) tail (.ok X []) → Ev en (.decls locs ds0) ((ds.map tkD).flatten ++ tail) (.ok X [])
  | [], ds0, locs, _, _, _, h => by
    rw [List.map_nil, List.append_nil] at h
    exact .of (.nay ht (.call h (.ret _ _)))
  | d :: r, ds0, locs, hd, h8, hl, h => by
    have hd0 := hd d (by simp)
    have hr := fun y hy => hd y (List.mem_cons_of_mem d hy)
    rw [sizes_cons] at hl
    have hs := size_toED hd0
    have hp := sizes_pos hr
    refine .of (.yes ?_ ?_)
    · rw [List.map_cons, List.flatten_cons, List.append_assoc]; exact decl_head hd0 _
    · rw [if_neg (by simp only [List.length_cons] at h8; omega), List.map_cons, List.flatten_cons, List.append_assoc]
      refine ev_decl hd0 ?_
      rw [if_neg (by rw [hs.1]; omega)]
      refine .call (ev_decls en ht r (ds0 ++ [toED d]) _ hr (by simp only [List.length_append, List.length_cons, List.length_nil] at *; omega) (by rw [hs.1]; omega) ?_) (.ret _ _)
      rw [List.append_assoc]
      exact h
/-- The words of a formed program are read as that program. -/
theorem words_back (en : Nat) {ds : List Dl} {es : List Px} (h : progB ds es = true) : parseO en (tkP ds es) = .ok (progE (ds.map toED) (es.map toE)) [] := by
  have H := progB_iff.1 h
  have h1 : Ev en (.decls 0 []) (tkP ds es) (.ok (progE (ds.map toED) (es.map toE)) []) := by
    refine ev_decls en ?_ ds [] 0 H.hd (by have := H.d8; simp; omega) (by have := H.locs; omega) ?_
    · cases es with
      | nil => rfl
      | cons x r => rfl
    · exact ev_doms en _ es [] H.hx (by have := H.e3; simp; omega) (by have := H.e1; simp; omega)
  exact h1.at (parseO_ne en _)
/-- A shown text is read as the program, or is too long. -/
theorem shown_back {ds : List Dl} {es : List Px} (h : progB ds es = true) : (∃ us e2 r, lexT (shwP ds es) = .ok us ∧ parseO (shwP ds es).length us = .ok e2 r ∧ er e2 = er (progE (ds.map toED) (es.map toE)) ∧ e2.n = ds.length) ∨ ∃ q, lexT (shwP ds es) = .err 15 q := by
  have hs := shown_spell h
  unfold lexT
  by_cases c : 8192 < (shwP ds es).length
  · rw [if_pos c]; exact Or.inr ⟨0, rfl⟩
  · rw [if_neg c]
    obtain ⟨h1, h2⟩ := hs.lex 0 0 (by omega)
    by_cases c2 : 0 + (tkP ds es).length ≤ 1500
    · obtain ⟨us, e, hsm⟩ := h1 c2
      have hb := parse_blanks (en := 0) (en' := (shwP ds es).length) hsm
      rw [words_back 0 h] at hb
      cases e2 : parseO (shwP ds es).length us with
      | ok x r =>
        rw [e2] at hb
        refine Or.inl ⟨us, x, r, e, e2, ?_, ?_⟩
        · exact hb.1.symm
        · rw [← n_er hb.1]; show ((ds.map toED).length : Int) = _; rw [List.length_map]
      | _ => rw [e2] at hb; simp [OutR] at hb
    · obtain ⟨q, e⟩ := h2 (by omega)
      exact Or.inr ⟨q, e⟩
end Go.Proofs.YtkljakeccfnakaaGreatDoor
