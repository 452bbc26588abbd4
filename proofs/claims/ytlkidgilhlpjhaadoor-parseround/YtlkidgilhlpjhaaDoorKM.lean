/-
  The walk of ParseBlanks.
-/
import Derived.Test.YtlkidgilhlpjhaaDoorHV
import Derived.Test.YtlkidgilhlpjhaaDoorHW
import Derived.Test.YtlkidgilhlpjhaaDoorHY
namespace Go.Proofs.YtlkidgilhlpjhaaDoor
open Go.RowKit

/-- The value v is a slice of the bytes bs in the world w. -/
def SlB (w : World) (v : Value) (bs : List Nat) : Prop :=
  bs.length ≤ 140737488351232 ∧ ∃ a cap, v = .slice a bs.length cap ∧ (bs = [] ∨ ∃ b off, a = some ⟨b, off, none⟩ ∧ b < w.heap.size ∧ ∀ (i x : Nat), bs[i]? = some x → x < 256 ∧ w.cell? ⟨b, off + i, none⟩ = some (.int .u8 (x : Int)))
theorem SlB.below {w w' : World} {v : Value} {bs : List Nat} (h : SlB w v bs) (hb : Below w.heap.size w w') : SlB w' v bs := by
  obtain ⟨l, a, cap, e, h⟩ := h
  refine ⟨l, a, cap, e, ?_⟩
  rcases h with h | ⟨b, off, e1, e2, e3⟩
  · exact Or.inl h
  · exact Or.inr ⟨b, off, e1, Nat.lt_of_lt_of_le e2 hb.size, fun i x hi => ⟨(e3 i x hi).1, (hb.cell (p := ⟨b, off + i, none⟩) e2).trans (e3 i x hi).2⟩⟩
theorem back5_add (f : Nat → Nat) : ∀ (xs : List Tok) (t : Tok) (j : Nat), back5 f (xs ++ [t]) j = back5 f xs j ++ (sep5 (f (j + xs.length)) ++ t.text) := by
  intro xs
  induction xs with
  | nil => intro t j; show sep5 (f j) ++ (t.text ++ []) = [] ++ (sep5 (f (j + 0)) ++ t.text); simp
  | cons x xs ih =>
    intro t j
    show sep5 (f j) ++ (x.text ++ back5 f (xs ++ [t]) (j + 1)) = (sep5 (f j) ++ (x.text ++ back5 f xs (j + 1))) ++ _
    rw [ih, List.length_cons, show j + 1 + xs.length = j + (xs.length + 1) by omega]
    simp
theorem sep5_len (b : Nat) : (sep5 b).length ≤ 3 := by
  unfold sep5
  split
  · decide
  · split <;> decide
theorem back5_len (f : Nat → Nat) : ∀ (ts : List Tok) (i : Nat), (∀ t ∈ ts, Good t) → (back5 f ts i).length ≤ 19 * ts.length := by
  intro ts
  induction ts with
  | nil => intro i _; exact Nat.le_refl _
  | cons t ts ih =>
    intro i h
    have h1 := (h t (by simp)).len.2
    have h2 := ih (i + 1) (fun u hu => h u (by simp [hu]))
    have h3 := sep5_len (f i)
    show (sep5 (f i) ++ (t.text ++ back5 f ts (i + 1))).length ≤ _
    rw [List.length_append, List.length_append, List.length_cons]
    omega
theorem cat_mk5 (a b : List UInt8) : (⟨a.toArray⟩ : ByteArray) ++ ⟨b.toArray⟩ = ⟨(a ++ b).toArray⟩ := by
  apply ByteArray.ext; simp
theorem size_mk5 (a : List UInt8) : (⟨a.toArray⟩ : ByteArray).size = a.length := by rw [Lib.size_eq]
def byteF (bs : List Nat) (i : Nat) : Nat := bs.getD i 0

/-- Programs of the same words are the same, places apart; and so are errors. -/
theorem blanks_law {l m : List UInt8} {ts us : List Tok} (hl : lexT l = .ok ts) (hm : lexT m = .ok us) (hs : SameL ts us) {lo lo2 : Nat} {w w2 : World} {v v2 : Value} {c c2 p p2 : Nat} (h : ParseA lo w v c p l) (h2 : ParseA lo2 w2 v2 c2 p2 m) :
    c = c2 ∧ ∃ ds es ds2 es2, PrV lo w v ds es ∧ PrV lo2 w2 v2 ds2 es2 ∧ ds.length = ds2.length ∧ (∀ (j : Nat) (d d2 : Ex), ds[j]? = some d → ds2[j]? = some d2 → SameX false d d2) ∧ es.length = es2.length ∧ (∀ (j : Nat) (d d2 : Ex), es[j]? = some d → es2[j]? = some d2 → SameX false d d2) := by
  have hO := parse_blanks (en := l.length) (en' := m.length) hs
  unfold ParseA at h h2
  rw [hl] at h
  rw [hm] at h2
  dsimp only at h h2
  unfold OutR at hO
  have z : ∀ {lo lo2 : Nat} {w w2 : World} {v v2 : Value}, v = zeroP → v2 = zeroP → ∃ ds es ds2 es2, PrV lo w v ds es ∧ PrV lo2 w2 v2 ds2 es2 ∧ ds.length = ds2.length ∧ (∀ (j : Nat) (d d2 : Ex), ds[j]? = some d → ds2[j]? = some d2 → SameX false d d2) ∧ es.length = es2.length ∧ (∀ (j : Nat) (d d2 : Ex), es[j]? = some d → es2[j]? = some d2 → SameX false d d2) := by
    intro lo lo2 w w2 v v2 e1 e2
    subst e1; subst e2
    exact ⟨[], [], [], [], zero_pr _ _, zero_pr _ _, rfl, fun j d d2 h => by simp at h, rfl, fun j d d2 h => by simp at h⟩
  generalize parseO l.length ts = o at *
  generalize parseO m.length us = o2 at *
  cases o with
  | out => exact h.elim
  | no r =>
    cases o2 with
    | no r2 => exact ⟨h.2.1.trans h2.2.1.symm, z h.1 h2.1⟩
    | ok x r2 => exact hO.elim
    | lim q => exact hO.elim
    | out => exact hO.elim
  | lim q =>
    cases o2 with
    | lim q2 => exact ⟨h.2.1.trans h2.2.1.symm, z h.1 h2.1⟩
    | ok x r2 => exact hO.elim
    | no q => exact hO.elim
    | out => exact hO.elim
  | ok x r =>
    cases o2 with
    | lim q2 => exact hO.elim
    | no q => exact hO.elim
    | out => exact hO.elim
    | ok x2 r2 =>
      obtain ⟨h0, _, ds, es, rfl, hp⟩ := h
      obtain ⟨h02, _, ds2, es2, rfl, hp2⟩ := h2
      have he := hO.1
      simp only [progE, er, Ex.mk.injEq, true_and] at he
      obtain ⟨e1, e2⟩ := he
      have e1' : ds.length = ds2.length := by omega
      rw [erL_app, erL_app] at e2
      have hlen : (erL ds).length = (erL ds2).length := by
        have k : ∀ l : List Ex, (erL l).length = l.length := fun l => by
          induction l with
          | nil => rfl
          | cons a r ih => show (er a :: erL r).length = _; simp [ih]
        rw [k, k, e1']
      obtain ⟨a1, a2⟩ := List.append_inj e2 hlen
      obtain ⟨b1, b2⟩ := (erL_at _ _).1 a1
      obtain ⟨c1, c2⟩ := (erL_at _ _).1 a2
      exact ⟨h0.trans h02.symm, ds, es, ds2, es2, hp, hp2, b1, fun j d d2 h1 h2 => b2 j d d2 h1 h2, c1, fun j d d2 h1 h2 => c2 j d d2 h1 h2⟩

set_option maxRecDepth 100000 in
set_option maxHeartbeats 8000000 in
theorem parseBlanks_walk (C : ParseC) (L : LexC) (s : ByteArray) (vb : Value) (bs : List Nat) (w : World) (hs : s.size ≤ 140737488351232) (hv : SlB w vb bs) :
    Calls Tryd.prog 3 #[.string s, vb] w fun e w' => e = .returned (.bool true) ∧ Below w.heap.size w w' := by
  have HA : Hid (∀ W, Calls Tryd.prog 6 #[] W fun e w' => e = .returned (.bool true) ∧ Below W.heap.size W w') := fun W => awake_any C W
  have ca := fun W => tokens_at L s W hs
  cases hR : lexT s.data.toList with
  | err c p =>
    rw [hR] at ca
    have hc := lex_err hR
    have c0 : ((c : Int) != 0) = true := by rw [bne_iff_ne]; omega
    clear hc hR
    have HT : Hid (∀ W, Calls Tryd.prog 7 #[.string s] W fun e w' => (∃ v, e = .returned (.tuple #[v, .int .i64 (c : Int), .int .i64 (p : Int)]) ∧ TokSl w' v []) ∧ Below W.heap.size W w') := ca
    clear ca C L
    go_enter Tryd.func3, Tryd.ntmps3
    go_wp2_with fail
    refine (HA.out _).mono ?_
    rintro e w1 ⟨rfl, hb1⟩
    go_wp2_with fail
    refine (HT.out _).mono ?_
    rintro e w2 ⟨⟨v, rfl, hv2⟩, hb2⟩
    go_wp2
    go_ret
    exact ⟨rfl, bl2 hb1 hb2⟩
  | ok ts =>
    rw [hR] at ca
    have HT : Hid (∀ W, Calls Tryd.prog 7 #[.string s] W fun e w' => (∃ v, e = .returned (.tuple #[v, .int .i64 0, .int .i64 0]) ∧ TokSl w' v ts) ∧ Below W.heap.size W w') := ca
    clear ca
    have HV := Hid.intro hv
    have HC := Hid.intro C
    have HLX := Hid.intro hR
    have good := lex_good hR
    have G := Hid.intro good
    clear hv C L hR good
    go_enter Tryd.func3, Tryd.ntmps3
    go_wp2_with fail
    refine (HA.out _).mono ?_
    rintro e w1 ⟨rfl, hb1⟩
    go_wp2_with fail
    refine (HT.out _).mono ?_
    rintro e w2 ⟨⟨v, rfl, hv2⟩, hb2⟩
    have B2 : Hid (Below w.heap.size w w2) := Hid.intro (bl2 hb1 hb2)
    obtain ⟨l15, a, cap, rfl, hcap, hcm, htk⟩ := hv2
    have TK := Hid.intro htk
    clear htk hb1 hb2 HT HA
    by_cases n400 : 400 < ts.length
    · have n4' : (400 : Int) < (ts.length : Int) := by omega
      generalize ts.length = n at *
      go_wp2
      go_ret
      exact ⟨rfl, B2.out⟩
    have n4' : ¬ (400 : Int) < (ts.length : Int) := by omega
    have V2 := Hid.intro (HV.out.below (B2.out.mono (Nat.le_refl _)))
    clear HV
    obtain ⟨lb, ab, capb, rfl, hvb⟩ := V2.out
    have VB := Hid.intro hvb
    clear hvb V2
    obtain ⟨us, hu1, hu2⟩ := back5_read (byteF bs) ts 0 0 0 G.out (by omega)
    have bl := back5_len (byteF bs) ts 0 G.out
    have hL : lexT (back5 (byteF bs) ts 0) = .ok us := by unfold lexT; rw [if_neg (by omega)]; exact hu1
    have HL2 := Hid.intro hL
    have HU := Hid.intro hu2
    obtain ⟨n, hn⟩ : ∃ n, ts.length = n := ⟨_, rfl⟩
    have HN := Hid.intro hn
    rw [hn] at n4' n400 bl l15 hcap
    rw [hn]
    clear hn hL hu1 hu2
    go_wp2_with fail
    go_loopw [8, 9] (fun st t wr => ∃ (i : Nat), i ≤ n ∧ t = .int .i64 i ∧ st = .string ⟨(back5 (byteF bs) (ts.take i) 0).toArray⟩ ∧ wr = w2) (fun _ t _ => n - (intOf t).toNat)
    case atStart => exact ⟨0, Nat.zero_le _, rfl, by rw [List.take_zero]; rfl, rfl⟩
    case round =>
      obtain ⟨i, hi, rfl, rfl, rfl⟩ := hrel
      by_cases d : i < n
      · have d' : (i : Int) < (n : Int) := by omega
        rcases TK with TK | ⟨bk, off, rfl, hbk, hck⟩
        · have := HN.out; rw [TK] at this; simp at this; omega
        obtain ⟨t, ht⟩ : ∃ t, ts[i]? = some t := ⟨_, List.getElem?_eq_getElem (by have := HN.out; omega)⟩
        have ck := (hck i t ht).2.1
        have tl := (G.out t (List.mem_of_getElem? ht)).len
        obtain ⟨X, hX⟩ : ∃ X, back5 (byteF bs) (ts.take i) 0 = X := ⟨_, rfl⟩
        have XL : X.length ≤ 7600 := by
          have := back5_len (byteF bs) (ts.take i) 0 (fun x hx => G.out x (List.mem_of_mem_take hx))
          rw [hX, List.length_take] at this
          omega
        have NX : Hid (back5 (byteF bs) (ts.take (i + 1)) 0 = X ++ (sep5 (byteF bs i) ++ t.text)) := by
          show _ = _
          rw [List.take_add_one, ht, Option.toList_some, back5_add, hX, List.length_take, show 0 + min i ts.length = i by have := HN.out; omega]
        rw [hX]
        clear hX hck ht
        generalize t.text = tx at *
        by_cases e : i < bs.length
        · have e' : (i : Int) < (bs.length : Int) := by omega
          rcases VB with VB | ⟨vb, vo, rfl, hvb, hvc⟩
          · rw [VB] at e; simp at e
          obtain ⟨x, hx⟩ : ∃ x, bs[i]? = some x := ⟨_, List.getElem?_eq_getElem e⟩
          obtain ⟨x256, cx⟩ := hvc i x hx
          have bx : byteF bs i = x := by unfold byteF; rw [List.getD_eq_getElem?_getD, hx]; rfl
          rw [bx] at NX
          clear hvc hx bx
          go_wp2_with fail
          · rename_i h0
            have hs4 : sep5 x = [32] := by
              unfold sep5
              rw [beq_iff_eq] at h0; rw [if_pos (by omega)]
            refine ⟨⟨i + 1, by omega, by go_num, ?_, trivial⟩, by simp [intOf]; omega⟩
            rw [NX.out, hs4, ← cat_mk5, ← cat_mk5, ← ByteArray.append_assoc]
          · rename_i h0 h1
            have hs4 : sep5 x = [10, 32, 32] := by
              unfold sep5
              rw [beq_eq_false_iff_ne] at h0; rw [beq_iff_eq] at h1; rw [if_neg (by omega), if_pos (by omega)]
            refine ⟨⟨i + 1, by omega, by go_num, ?_, trivial⟩, by simp [intOf]; omega⟩
            rw [NX.out, hs4, ← cat_mk5, ← cat_mk5, ← ByteArray.append_assoc]
          · rename_i h0 h1
            have hs4 : sep5 x = [35, 41, 10] := by
              unfold sep5
              rw [beq_eq_false_iff_ne] at h0 h1; rw [if_neg (by omega), if_neg (by omega)]
            refine ⟨⟨i + 1, by omega, by go_num, ?_, trivial⟩, by simp [intOf]; omega⟩
            rw [NX.out, hs4, ← cat_mk5, ← cat_mk5, ← ByteArray.append_assoc]
        · have e' : ¬ (i : Int) < (bs.length : Int) := by omega
          have bx : byteF bs i = 0 := by unfold byteF; rw [List.getD_eq_getElem?_getD, List.getElem?_eq_none (by omega)]; rfl
          rw [bx] at NX
          clear bx
          go_wp2_with fail
          go_roundw
          case rel =>
            refine ⟨i + 1, by omega, by go_num, ?_, by first | rfl | trivial⟩
            rw [NX.out, ← cat_mk5, ← cat_mk5, ← ByteArray.append_assoc]; rfl
          case measure => simp [intOf]; omega
      · have ei : i = n := by omega
        have d' : ¬ (i : Int) < (n : Int) := by omega
        have eX : back5 (byteF bs) (ts.take i) 0 = back5 (byteF bs) ts 0 := by rw [ei, List.take_of_length_le (by have := HN.out; omega)]
        rw [eX]
        clear ei eX
        have sz : (back5 (byteF bs) ts 0).length ≤ 7600 := by omega
        generalize back5 (byteF bs) ts 0 = X at *
        have HSZ := Hid.intro sz
        have sz8 : ¬ (8192 : Int) < (((⟨X.toArray⟩ : ByteArray).size : Nat) : Int) := by rw [size_mk5]; omega
        clear bl
        go_wp2_with fail
        refine (HC.out.parse s _ hs).mono ?_
        rintro e w3 ⟨⟨v1, c1, p1, rfl, hA1⟩, hb3⟩
        obtain ⟨pa, pn, px, pb, pm, py, rfl⟩ := ans_form hA1
        have HA1 := Hid.intro hA1
        have B3 := Hid.intro hb3
        clear hA1 hb3
        go_wp2_with fail
        refine (HC.out.parse ⟨X.toArray⟩ _ (by rw [size_mk5]; have := HSZ.out; omega)).mono ?_
        rintro e w4 ⟨⟨v2, c2, p2, rfl, hA2⟩, hb4⟩
        obtain ⟨qa, qn, qx, qb, qm, qy, rfl⟩ := ans_form hA2
        have z0 := (hb4.cell (p := ⟨w3.heap.size, 0, none⟩) (by simp)).trans (show _ = some (.slice pa pn px) by go_simp)
        have z1 := (hb4.cell (p := ⟨w3.heap.size, 1, none⟩) (by simp)).trans (show _ = some (.slice pb pm py) by go_simp)
        have l4 := hb4.size
        (try simp at l4)
        have zl : w3.heap.size < w4.heap.size := by omega
        have zn : w3.heap.size ≠ w4.heap.size := by omega
        have zn2 : w4.heap.size ≠ w3.heap.size := by omega
        have B4 := Hid.intro hb4
        obtain ⟨hc, ds, es, ds2, es2, hq1, hq2, k1, k2, k3, k4⟩ := blanks_law HLX.out HL2.out HU.out HA1.out hA2
        subst hc
        have Q1 := Hid.intro hq1
        have Q2 := Hid.intro hq2
        have K1 := Hid.intro k1
        have K2 := Hid.intro k2
        have K3 := Hid.intro k3
        have K4 := Hid.intro k4
        have cc : ((c1 : Int) == (c1 : Int)) = true := by simp
        clear hb4 hA2 hq1 hq2 k1 k2 k3 k4
        go_wp2_with fail
        refine (same_prog false (Q1.out.below (ba (bl2 (ba (Below.refl _ _)) B4.out))) (Q2.out.below (ba (Below.refl _ _))) K1.out K2.out K3.out K4.out).mono ?_
        rintro e w5 ⟨rfl, hb5⟩
        go_wp2_with fail
        go_ret
        exact ⟨rfl, bl2 (ba (bl2 (ba (bl2 B2.out B3.out)) B4.out)) hb5⟩
end Go.Proofs.YtlkidgilhlpjhaaDoor
