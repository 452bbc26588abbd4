/-
  The walks of the document's own short and Small; Show's contract.
  How long a program's text is; parts of a program. No program of Go's is named here.
-/
import Derived.Test.YtkljakeccfnakaaGreatDoorTv
namespace Go.Proofs.YtkljakeccfnakaaGreatDoor
open Go.RowKit

mutual
def shortX : Px → Bool
  | .mk _ t o _ _ l => decide (t.length ≤ 100) && decide (o.length ≤ 100) && shortXL l
def shortXL : List Px → Bool
  | [] => true
  | e :: r => shortX e && shortXL r
end
theorem shortXL_all : ∀ l : List Px, shortXL l = l.all shortX
  | [] => rfl
  | e :: r => by simp only [shortXL, List.all_cons, shortXL_all r]
def smallX (x : Px) : Bool := decide (deepX x ≤ 100) && decide (szX x ≤ 2000) && shortX x
def smallP (ds : List Dl) (es : List Px) : Bool := decide (ds.length ≤ 40) && decide (es.length ≤ 10) && ds.all (fun d => decide (d.name.length ≤ 1000)) && es.all smallX

set_option maxHeartbeats 4000000 in
theorem short_great (k n p : Int) (t o : List UInt8) (a : Option Addr) (ln cp : Nat) (w : World) (h : ¬ (t.length ≤ 100 ∧ o.length ≤ 100)) :
    Calls Tryz.prog 22 #[.agg #[.int .i64 k, .string ⟨t.toArray⟩, .string ⟨o.toArray⟩, .int .i64 n, .int .i64 p, .slice a ln cp]] w fun e w' => e = .returned (.bool false) ∧ Below w.heap.size w w' := by
  have e1 : (⟨t.toArray⟩ : ByteArray).size = t.length := by rw [Lib.size_eq]
  have e2 : (⟨o.toArray⟩ : ByteArray).size = o.length := by rw [Lib.size_eq]
  generalize (⟨t.toArray⟩ : ByteArray) = tx at *
  generalize (⟨o.toArray⟩ : ByteArray) = ox at *
  rw [← e1, ← e2] at h
  clear e1 e2
  by_cases z1 : (tx.size : Int) > 100
  · go_enter Tryz.func22, Tryz.ntmps22
    go_wp2_with fail
    go_ret
    exact ⟨rfl, ba (Below.refl _ _)⟩
  have z2 : (ox.size : Int) > 100 := by omega
  clear h
  go_enter Tryz.func22, Tryz.ntmps22
  go_wp2_with fail
  go_ret
  exact ⟨rfl, ba (Below.refl _ _)⟩
set_option maxHeartbeats 4000000 in
theorem short_any (N : Nat) : ∀ (x : Px) (v : Value) (hi : Nat) (w : World), szX x ≤ N → hi ≤ w.heap.size → PxV hi w v x →
    Calls Tryz.prog 22 #[v] w fun e w' => e = .returned (.bool (shortX x)) ∧ Below w.heap.size w w' := by
  induction N with
  | zero => intro x v lo w h; have := szX_pos x; omega
  | succ N ih =>
    intro x v hi w hN hhi hx
    have IH : Hid (∀ (j : Nat) (y : Px) (u : Value) (W : World), x.kids[j]? = some y → Below w.heap.size w W → PxV hi w u y → Calls Tryz.prog 22 #[u] W fun e w' => e = .returned (.bool (shortX y)) ∧ Below W.heap.size W w') := fun j y u W hj hK hu =>
      ih y u hi W (by have := szXL_mem _ j y hj; cases x; simp only [szX, Px.kids] at *; omega) (Nat.le_trans hhi hK.size) (hu.keep (hK.mono hhi))
    have E : Hid (shortX x = (decide (x.text.length ≤ 100) && decide (x.other.length ≤ 100) && x.kids.all shortX)) := by cases x; show _ = _; rw [shortX, shortXL_all]; rfl
    obtain ⟨a, cap, rfl, hcap, hlen, hab⟩ := hx.row
    by_cases hg : x.text.length ≤ 100 ∧ x.other.length ≤ 100
    case neg =>
      have F : shortX x = false := by
        rw [E.out, ← Bool.not_eq_true]
        simp only [Bool.and_eq_true, decide_eq_true_iff]
        exact fun h => hg h.1
      rw [F]
      exact short_great _ _ _ _ _ _ _ _ w hg
    have E2 : Hid (shortX x = x.kids.all shortX) := by show _ = _; rw [E.out, decide_eq_true hg.1, decide_eq_true hg.2]; rfl
    have e1 : (⟨x.text.toArray⟩ : ByteArray).size = x.text.length := by rw [Lib.size_eq]
    have e2 : (⟨x.other.toArray⟩ : ByteArray).size = x.other.length := by rw [Lib.size_eq]
    unfold pv
    rw [← e1, ← e2] at hg
    generalize (⟨x.text.toArray⟩ : ByteArray) = tx at *
    generalize (⟨x.other.toArray⟩ : ByteArray) = ox at *
    have z1 : ¬ (tx.size : Int) > 100 := by omega
    have z2 : ¬ (ox.size : Int) > 100 := by omega
    clear hx hN hg e1 e2 E
    generalize hn : x.kids.length = n at *
    have HN : Hid (x.kids.length = n) := hn
    clear hn
    have HAB := Hid.intro hab
    clear hab
    go_enter Tryz.func22, Tryz.ntmps22
    go_wp2_with fail
    go_loopw [3] (fun u wr => ∃ (i : Nat), i ≤ n ∧ u = .int .i64 i ∧ Hid ((x.kids.take i).all shortX = true) ∧ wr.cell? ⟨w.heap.size, 5, none⟩ = some (.slice a n cap) ∧ Below w.heap.size w wr) (fun u _ => n - (intOf u).toNat)
    case atStart => exact ⟨0, Nat.zero_le _, rfl, by simp [Hid], by go_simp, (Below.refl _ _).alloc (Nat.le_refl _) _⟩
    case round =>
      obtain ⟨i, hi', rfl, hs, c5, hb⟩ := hrel
      have lt5 := lt_cell c5
      by_cases c : i < n
      · have c' : (i : Int) < (n : Int) := by omega
        rcases HAB.out with h0 | ⟨b, off, rfl, hR⟩
        · exact absurd HN.out (by rw [h0]; simp; omega)
        have hbl : b < w.heap.size := Nat.lt_of_lt_of_le hR.1 hhi
        obtain ⟨y, hy⟩ : ∃ y, x.kids[i]? = some y := ⟨_, List.getElem?_eq_getElem (by have := HN.out; omega)⟩
        obtain ⟨ka, cp, hkc, hky⟩ := hR.2 i y hy
        obtain ⟨HK0, HK1, HK2, HK3, HK4, HK5⟩ := hkc.keep hb hbl
        have HC : Hid (∀ W : World, Below w.heap.size w W → Calls Tryz.prog 22 #[.agg #[.int .i64 y.kind, .string ⟨y.text.toArray⟩, .string ⟨y.other.toArray⟩, .int .i64 y.n, .int .i64 y.pl, .slice ka y.kids.length cp]] W fun e w' => e = .returned (.bool (shortX y)) ∧ Below W.heap.size W w') := fun W hK => IH.out i y _ W hy hK hky
        have HY : Hid (x.kids[i]? = some y) := hy
        have KW : Hid (Below w.heap.size w wr) := hb
        have hbr : b < wr.heap.size := Nat.lt_of_lt_of_le hbl hb.size
        clear hkc hky hy hR
        generalize y.kids.length = yl at *
        obtain ⟨z, hz⟩ : ∃ z, shortX y = z := ⟨_, rfl⟩
        have HZ : Hid (shortX y = z) := hz
        rw [hz] at HC
        clear hz
        cases z with
        | false =>
          have F : Hid (shortX x = false) := by show _ = _; rw [E2.out]; exact all_no HY.out HZ.out
          go_wp2_with (go_at_call 22; refine (HC.out _ KW.out).mono ?_; rintro e w1 ⟨rfl, hb1⟩)
          go_ret
          exact ⟨ret_bool F.out.symm, bl2 KW.out hb1⟩
        | true =>
          have F : Hid ((x.kids.take (i + 1)).all shortX = true) := all_take HY.out hs.out HZ.out
          go_wp2_with (go_at_call 22; refine (HC.out _ KW.out).mono ?_; rintro e w1 ⟨rfl, hb1⟩)
          go_roundw
          case rel => exact ⟨i + 1, by omega, by go_num, F.out, (hb1.cell (p := ⟨w.heap.size, 5, none⟩) lt5).trans c5, bl2 hb hb1⟩
          case measure => simp [intOf]; omega
      · have c' : ¬ (i : Int) < (n : Int) := by omega
        have F : Hid (shortX x = true) := by
          show _ = _
          rw [E2.out]; exact all_whole (by have := HN.out; omega) hs.out
        go_wp2_with fail
        go_ret
        exact ⟨ret_bool F.out.symm, hb⟩

theorem wf_of_form {es : List Px} (h : es.all (formB 60) = true) : ∀ x ∈ es, wfX x = true ∧ deepX x ≤ 60 := fun x hx => by
  have := List.all_eq_true.1 h x hx
  unfold formB at this
  simpa using this
/-- Show tells a program's text, or that it is not formed. -/
theorem showP_any (ds : List Dl) (es : List Px) (v : Value) (hi : Nat) (w : World) (h : PV hi w v ds es) (hhi : hi ≤ w.heap.size) (hw : Ok w.heap.size w) (hl : progB ds es = true → (shwP ds es).length ≤ 140737488355328) :
    Calls Tryz.prog 11 #[v] w fun e w' => e = .returned (.tuple #[.string ⟨(if progB ds es then shwP ds es else []).toArray⟩, .int .i64 (if progB ds es then 0 else 3)]) ∧ Below w.heap.size w w' := by
  have hF : ∀ W, Below w.heap.size w W → Calls Tryz.prog 13 #[v] W fun e w' => e = .returned (.bool (progB ds es)) ∧ Below W.heap.size W w' := fun W hW => formedP_any ds es v hi W (h.keep (hW.mono hhi)) (Nat.le_trans hhi hW.size)
  obtain ⟨a1, c1, a2, c2, rfl, hd, he⟩ := h
  cases c : progB ds es with
  | false =>
    rw [c] at hF
    refine (show_bad _ _ _ _ _ _ w hF).mono ?_
    rintro e w' ⟨rfl, hb⟩
    exact ⟨rfl, hb⟩
  | true =>
    rw [c] at hF
    have hp := c
    unfold progB at hp
    simp only [Bool.and_eq_true, decide_eq_true_iff] at hp
    obtain ⟨⟨⟨⟨⟨h1, h2⟩, h3⟩, h4⟩, h5⟩, _⟩ := hp
    refine (show_good ds es a1 a2 _ c1 _ c2 hi w rfl rfl h1 h3 hF ⟨hd.row, he.row, hd.names, hhi⟩ (List.all_eq_true.1 h4) (fun x hx => (wf_of_form h5 x hx).1) hw (hl c)).mono ?_
    rintro e w' ⟨rfl, hb⟩
    exact ⟨rfl, hb⟩
end Go.Proofs.YtkljakeccfnakaaGreatDoor

namespace Go.Proofs.YtkljakeccfnakaaGreatDoor

theorem len_take (l : List (List UInt8)) (n : Nat) : ((l.take (n + 1)).flatten).length = ((l.take n).flatten).length + (l.getD n []).length := by
  rw [List.take_add_one, List.flatten_append, List.length_append, List.getD_eq_getElem?_getD]
  cases l[n]? <;> simp
theorem wv_len (ps ts : List (List UInt8)) : ∀ n, (wv ps ts n).length ≤ ((ps.take n).flatten).length + ((ts.take (n - 1)).flatten).length := by
  intro n
  induction n with
  | zero => simp [wv]
  | succ n ih =>
    rw [wv_succ, List.length_append, List.length_append, len_take, Nat.add_sub_cancel]
    by_cases h : n = 0
    · subst h; simp [wv]
    · obtain ⟨m, rfl⟩ : ∃ m, n = m + 1 := ⟨n - 1, by omega⟩
      rw [if_neg h, len_take ts m, Nat.add_sub_cancel] at *
      omega
theorem flat_joined (c : UInt8) : ∀ ps : List (List UInt8), ps.flatten.length ≤ (joined c ps).length
  | [] => by simp
  | [p] => by simp [joined]
  | p :: q :: r => by
    have := flat_joined c (q :: r)
    rw [joined, List.flatten_cons, List.length_append, List.length_append, List.length_cons]
    omega
theorem flat_take (l : List (List UInt8)) (n : Nat) : ((l.take n).flatten).length ≤ l.flatten.length := by
  conv => rhs; rw [← List.take_append_drop n l]
  rw [List.flatten_append, List.length_append]; omega
theorem flat_sz (l : List Px) (h : ∀ y ∈ l, (shwX y).length ≤ 200 * szX y) : ((l.map shwX).flatten).length ≤ 200 * szXL l := by
  induction l with
  | nil => simp [szXL]
  | cons a r ih =>
    have h1 := h a List.mem_cons_self
    have h2 := ih fun y hy => h y (List.mem_cons_of_mem _ hy)
    rw [List.map_cons, List.flatten_cons, List.length_append, szXL]
    omega
theorem pick_sz {k n : Int} (l : List Px) : szXL (pick3 k n l) ≤ szXL l := by
  unfold pick3
  split
  · split
    · match l with
      | [] => simp [szXL]
      | [a] => simp [szXL]
      | a :: b :: r => simp [szXL]
    · split
      · exact Nat.le_refl _
      · match l with
        | [] => simp [szXL]
        | [a] => simp [szXL]
        | [a, b] => simp [szXL]
        | a :: b :: c :: r => simp [szXL]; omega
  · exact Nat.le_refl _
/-- No expression's text is long. -/
theorem shw_len (N : Nat) : ∀ x : Px, szX x ≤ N → wfX x = true → (shwX x).length ≤ 200 * szX x := by
  induction N with
  | zero => intro x h; have := szX_pos x; omega
  | succ N ih =>
    intro x hN hw
    obtain ⟨hn, hk⟩ := wf_node hw
    have h1 := wv_len (pcs x.kind x.text x.other x.n) ((pick3 x.kind x.n x.kids).map shwX) (pcs x.kind x.text x.other x.n).length
    rw [← shw_eq] at h1
    have h2 := flat_joined 36 (pcs x.kind x.text x.other x.n)
    have h3 := joined_len (node_pat hn)
    have h4 := flat_take ((pick3 x.kind x.n x.kids).map shwX) ((pcs x.kind x.text x.other x.n).length - 1)
    have hs : szX x = szXL x.kids + 1 := by cases x; rfl
    have h5 := flat_sz (pick3 x.kind x.n x.kids) fun y hy => by
      have hm := pick_mem hy
      obtain ⟨i, hi, e⟩ := List.getElem_of_mem hm
      have := szXL_mem x.kids i y (by rw [List.getElem?_eq_getElem hi, e])
      exact ih y (by omega) (hk y hm)
    have h6 := pick_sz (k := x.kind) (n := x.n) x.kids
    rw [List.take_of_length_le (Nat.le_refl _)] at h1
    omega
theorem progB_parts {ds : List Dl} {es : List Px} (h : progB ds es = true) : ds.length ≤ 8 ∧ 1 ≤ es.length ∧ es.length ≤ 3 ∧ ds.all declB = true ∧ es.all (formB 60) = true ∧ sizesD ds ≤ 16 := by
  unfold progB at h
  simp only [Bool.and_eq_true, decide_eq_true_iff] at h
  exact ⟨h.1.1.1.1.1, h.1.1.1.1.2, h.1.1.1.2, h.1.1.2, h.1.2, h.2⟩
theorem progB_of {ds : List Dl} {es : List Px} (h1 : ds.length ≤ 8) (h2 : 1 ≤ es.length) (h3 : es.length ≤ 3) (h4 : ds.all declB = true) (h5 : es.all (formB 60) = true) (h6 : sizesD ds ≤ 16) : progB ds es = true := by
  unfold progB
  simp only [Bool.and_eq_true, decide_eq_true_iff]
  exact ⟨⟨⟨⟨⟨h1, h2⟩, h3⟩, h4⟩, h5⟩, h6⟩
theorem flat_const {α : Type} (f : α → List UInt8) (B : Nat) (l : List α) (h : ∀ y ∈ l, (f y).length ≤ B) : ((l.map f).flatten).length ≤ B * l.length := by
  induction l with
  | nil => simp
  | cons a r ih =>
    have h1 := h a List.mem_cons_self
    have h2 := ih fun y hy => h y (List.mem_cons_of_mem _ hy)
    rw [List.map_cons, List.flatten_cons, List.length_append, List.length_cons, Nat.mul_add]
    omega
theorem shwP_len {ds : List Dl} {es : List Px} (M : Nat) (h : progB ds es = true) (hz : ∀ x ∈ es, szX x ≤ M) : (shwP ds es).length ≤ 600 * M + 1000 := by
  obtain ⟨h1, h2, h3, h4, h5, h6⟩ := progB_parts h
  have a := flat_const dclT 61 ds fun d hd => by
    have := shwD_len (List.all_eq_true.1 h4 d hd)
    show (shwD d ++ [10]).length ≤ 61
    rw [List.length_append]; simp; omega
  have b := flat_const domT (200 * M + 12) es fun x hx => by
    have := shw_len _ x (Nat.le_refl _) (wf_of_form h5 x hx).1
    have := hz x hx
    show ([100, 111, 109, 97, 105, 110, 32] ++ shwX x ++ [32, 101, 110, 100, 10]).length ≤ 200 * M + 12
    rw [List.length_append, List.length_append]; simp; omega
  rw [shwP_eq, List.length_append]
  have c : (200 * M + 12) * es.length ≤ (200 * M + 12) * 3 := Nat.mul_le_mul_left _ h3
  omega
theorem small_sz {ds : List Dl} {es : List Px} (h : smallP ds es = true) : ∀ x ∈ es, szX x ≤ 2000 := fun x hx => by
  unfold smallP at h
  simp only [Bool.and_eq_true, decide_eq_true_iff] at h
  have := List.all_eq_true.1 h.2 x hx
  unfold smallX at this
  simp only [Bool.and_eq_true, decide_eq_true_iff] at this
  exact this.1.2
end Go.Proofs.YtkljakeccfnakaaGreatDoor
