/-
  Shown texts and programs that are the same but for places.
-/
import Derived.Test.YtkljakeccfnakaaGreatDoorWB
import Derived.Test.YtkljakeccfnakaaGreatDoorWC
namespace Go.Proofs.YtkljakeccfnakaaGreatDoor
open Go.RowKit

mutual
theorem pr_toX : ∀ e : Ex, pr (toX e) = toX (er e)
  | .mk k t o n p l => by simp only [toX, pr, er, pr_toXL l]; rfl
theorem pr_toXL : ∀ l : List Ex, prL (toXL l) = toXL (erL l)
  | [] => rfl
  | e :: r => by simp only [toXL, prL, erL, pr_toX e, pr_toXL r]
end
mutual
theorem pr_pr : ∀ x : Px, pr (pr x) = pr x
  | .mk k t o n p l => by simp only [pr, prL_prL l]
theorem prL_prL : ∀ l : List Px, prL (prL l) = prL l
  | [] => rfl
  | e :: r => by simp only [prL, pr_pr e, prL_prL r]
end
mutual
theorem shw_pr : ∀ x : Px, shwX (pr x) = shwX x
  | .mk k t o n p l => by simp only [pr, shwX, shw_prL l]
theorem shw_prL : ∀ l : List Px, shwXL (prL l) = shwXL l
  | [] => rfl
  | e :: r => by simp only [prL, shwXL, shw_pr e, shw_prL r]
end
mutual
theorem toX_toE : ∀ x : Px, wfX x = true → toX (toE x) = pr x
  | .mk k t o n p l => by
    intro h
    simp only [wfX, Bool.and_eq_true] at h
    have hk := node_kind h.1
    simp only [toE, toX, pr, toX_toEL l h.2]
    have : ((k.toNat : Nat) : Int) = k := by omega
    rw [this]; rfl
theorem toX_toEL : ∀ l : List Px, wfXL l = true → toXL (toEL l) = prL l
  | [], _ => rfl
  | e :: r, h => by
    simp only [wfXL, Bool.and_eq_true] at h
    simp only [toEL, toXL, prL, toX_toE e h.1, toX_toEL r h.2]
end
theorem sameP_text {ds fs : List Dl} {es gs : List Px} (h : SameP ds fs es gs) : shwP ds es = shwP fs gs := by
  have e1 : (ds.map fun d => shwD d ++ [10]) = fs.map fun d => shwD d ++ [10] := by
    apply List.ext_getElem?
    intro j
    rw [List.getElem?_map, List.getElem?_map]
    cases hd : ds[j]? with
    | none => rw [List.getElem?_eq_none (by have := List.getElem?_eq_none_iff.1 hd; have := h.dl; omega)]
    | some d =>
      have hl := (List.getElem?_eq_some_iff.1 hd).1
      obtain ⟨g, hg⟩ : ∃ g, fs[j]? = some g := ⟨_, List.getElem?_eq_getElem (by have := h.dl; omega)⟩
      rw [hg]
      obtain ⟨a, b, c⟩ := h.d j d g hd hg
      simp only [Option.map_some, shwD, a, b, c]
  have e2 : es.map domT = gs.map domT := by
    apply List.ext_getElem?
    intro j
    rw [List.getElem?_map, List.getElem?_map]
    cases hd : es[j]? with
    | none => rw [List.getElem?_eq_none (by have := List.getElem?_eq_none_iff.1 hd; have := h.el; omega)]
    | some d =>
      have hl := (List.getElem?_eq_some_iff.1 hd).1
      obtain ⟨g, hg⟩ : ∃ g, gs[j]? = some g := ⟨_, List.getElem?_eq_getElem (by have := h.el; omega)⟩
      rw [hg]
      have := h.e j d g hd hg
      simp only [Option.map_some, domT]
      rw [← shw_pr d, this, shw_pr]
  unfold shwP
  rw [e1, e2]
theorem SameP.of_er {ds : List Dl} {es : List Px} (hp : progB ds es = true) {de ee : List Ex} (h1 : erL de = erL (ds.map toED)) (h2 : erL ee = erL (es.map toE)) : SameP ds (de.map toD) es (ee.map toX) := by
  have H := progB_iff.1 hp
  have l1 := erL_len h1
  have l2 := erL_len h2
  rw [List.length_map] at l1 l2
  have g1 := ((erL_at _ _).1 h1).2
  have g2 := ((erL_at _ _).1 h2).2
  refine ⟨by rw [List.length_map, l1], by rw [List.length_map, l2], fun j a b ha hb => ?_, fun j a b ha hb => ?_⟩
  · rw [List.getElem?_map, Option.map_eq_some_iff] at hb
    obtain ⟨y, hy, rfl⟩ := hb
    have := g1 j y (toED a) hy (by rw [List.getElem?_map, ha]; rfl)
    have hk := (decl_cases (H.hd a (List.mem_of_getElem? ha))).2
    refine ⟨?_, ?_, ?_⟩
    · show a.kind = ((y.kind : Nat) : Int)
      rw [kind_er this]
      show a.kind = ((a.kind.toNat : Nat) : Int)
      omega
    · exact (text_er this).symm
    · exact (n_er this).symm
  · rw [List.getElem?_map, Option.map_eq_some_iff] at hb
    obtain ⟨y, hy, rfl⟩ := hb
    have := g2 j y (toE a) hy (by rw [List.getElem?_map, ha]; rfl)
    rw [pr_toX, this, ← pr_toX, toX_toE a (H.hx a (List.mem_of_getElem? ha)).1, pr_pr]
/-- A program that was read of a shown text is the one that was shown. -/
theorem back_same {ds : List Dl} {es : List Px} (hp : progB ds es = true) {ds2 : List Dl} {es2 : List Px} (hr : ReadP (shwP ds es) ds2 es2) : SameP ds ds2 es es2 := by
  obtain ⟨ts, de, ee, hl, hq, rfl, rfl⟩ := hr.ex
  rcases shown_back hp with ⟨us, e2, r, h1, h2, h3, h4⟩ | ⟨q, h1⟩
  · rw [hl] at h1
    obtain rfl := Res.ok.inj h1
    rw [hq] at h2
    injection h2 with h5 h6
    subst h5
    have hn : (de.length : Int) = ds.length := h4
    have h7 := kids_er h3
    simp only [progE, Ex.kids] at h7
    rw [erL_app, erL_app] at h7
    have hlen : (erL de).length = (erL (ds.map toED)).length := by
      have : ∀ l : List Ex, (erL l).length = l.length := fun l => by
        induction l with
        | nil => rfl
        | cons a r ih => simp only [erL, List.length_cons, ih]
      rw [this, this, List.length_map]; omega
    obtain ⟨h8, h9⟩ := List.append_inj h7 hlen
    exact SameP.of_er hp h8 h9
  · rw [hl] at h1; cases h1
/-- A shown text is read, or is too long. -/
theorem back_reads {ds : List Dl} {es : List Px} (hp : progB ds es = true) (h : ∀ ts X r, lexT (shwP ds es) = .ok ts → parseO (shwP ds es).length ts ≠ .ok X r) : ∃ q, lexT (shwP ds es) = .err 15 q := by
  rcases shown_back hp with ⟨us, e2, r, h1, h2, _, _⟩ | h1
  · exact absurd h2 (h us e2 r h1)
  · exact h1
/-- Programs with one text are the same. -/
theorem text_same {ds fs : List Dl} {es gs : List Px} (hp : progB ds es = true) (hq : progB fs gs = true) (h : shwP ds es = shwP fs gs) : SameP ds fs es gs := by
  have h1 := words_back 0 hp
  have h2 := words_back 0 hq
  have hs := (shown_spell hp).det (shown_spell hq) h.symm
  have hb := parse_blanks (en := 0) (en' := 0) hs
  rw [h1, h2] at hb
  have h3 : er (progE (ds.map toED) (es.map toE)) = er (progE (fs.map toED) (gs.map toE)) := hb.1
  have hn : ((ds.map toED).length : Int) = (fs.map toED).length := n_er h3
  have h7 := kids_er h3
  simp only [progE, Ex.kids] at h7
  rw [erL_app, erL_app] at h7
  have hL : ∀ l : List Ex, (erL l).length = l.length := fun l => by
    induction l with
    | nil => rfl
    | cons a r ih => simp only [erL, List.length_cons, ih]
  obtain ⟨h8, h9⟩ := List.append_inj h7 (by rw [hL, hL]; omega)
  have a := SameP.of_er hp h8.symm h9.symm
  have b := SameP.of_er hq rfl rfl
  exact ⟨a.dl.trans b.dl.symm, a.el.trans b.el.symm,
    fun j x y hx hy => by
      obtain ⟨z, hz⟩ : ∃ z, ((fs.map toED).map toD)[j]? = some z := ⟨_, List.getElem?_eq_getElem (by have := (List.getElem?_eq_some_iff.1 hy).1; have := b.dl; omega)⟩
      obtain ⟨q1, q2, q3⟩ := a.d j x z hx hz
      obtain ⟨r1, r2, r3⟩ := b.d j y z hy hz
      exact ⟨q1.trans r1.symm, q2.trans r2.symm, q3.trans r3.symm⟩,
    fun j x y hx hy => by
      obtain ⟨z, hz⟩ : ∃ z, ((gs.map toE).map toX)[j]? = some z := ⟨_, List.getElem?_eq_getElem (by have := (List.getElem?_eq_some_iff.1 hy).1; have := b.el; omega)⟩
      exact (a.e j x z hx hz).trans (b.e j y z hy hz).symm⟩
end Go.Proofs.YtkljakeccfnakaaGreatDoor
