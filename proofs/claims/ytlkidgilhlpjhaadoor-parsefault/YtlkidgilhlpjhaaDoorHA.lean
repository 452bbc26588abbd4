/-
  The reader's state in memory, and the walks of its small functions.
-/
import Derived.Test.YtlkidgilhlpjhaaDoorD
import Derived.Test.YtlkidgilhlpjhaaDoorGg
import Derived.BigRegion
import Derived.RegionTactic
import Derived.Deep.RegionHeld3
import Derived.Deep.Cut
namespace Go.Proofs.YtlkidgilhlpjhaaDoor
open Go.RowKit

/-- A word as a value. -/
def tkV (t : Tok) : Value := .agg #[.int .i64 t.kind, .string ⟨t.text.toArray⟩, .int .i64 t.val, .int .i64 t.pos]
/-- Four cells of a word. -/
def TokAt (w : World) (b o : Nat) (t : Tok) : Prop :=
  w.cell? ⟨b, o, none⟩ = some (.int .i64 t.kind) ∧ w.cell? ⟨b, o + 1, none⟩ = some (.string ⟨t.text.toArray⟩) ∧ w.cell? ⟨b, o + 2, none⟩ = some (.int .i64 t.val) ∧ w.cell? ⟨b, o + 3, none⟩ = some (.int .i64 t.pos)
/-- The reader lies at R, and the words ts are left; R and the words lie ahead of Z. -/
structure St (Z R en : Nat) (w : World) (ts : List Tok) : Prop where
  size : Z ≤ w.heap.size
  rz : R < Z
  fine : ∀ t ∈ ts, t.val ≤ 999999999
  ex : ∃ (a : Option Addr) (cap : Nat), w.heap[R]? = some (.cells #[.slice a ts.length cap, .int .i64 (en : Int)] 50 (0, 0)) ∧ ts.length ≤ cap ∧ cap ≤ maxLen ∧ ts.length ≤ 1500 ∧
    (ts = [] ∨ ∃ b off, a = some ⟨b, off, none⟩ ∧ b ≠ R ∧ b < Z ∧ ∀ j t, ts[j]? = some t → TokAt w b (off + j * 4) t)
/-- All but R is as it was. -/
structure But (R : Nat) (w w' : World) : Prop where
  os : w'.os = w.os
  tape : w'.tape = w.tape
  output : w'.output = w.output
  size : w.heap.size ≤ w'.heap.size
  block : ∀ k, k < w.heap.size → k ≠ R → w'.heap[k]? = w.heap[k]?
theorem But.refl (R : Nat) (w : World) : But R w w := ⟨rfl, rfl, rfl, Nat.le_refl _, fun _ _ _ => rfl⟩
theorem But.trans {R : Nat} {a b c : World} (h : But R a b) (k : But R b c) : But R a c :=
  ⟨k.os.trans h.os, k.tape.trans h.tape, k.output.trans h.output, Nat.le_trans h.size k.size, fun i hi hr => (k.block i (Nat.lt_of_lt_of_le hi h.size) hr).trans (h.block i hi hr)⟩
theorem But.below {R : Nat} {a b c : World} (h : But R a b) (k : Below b.heap.size b c) : But R a c :=
  ⟨k.os.trans h.os, k.tape.trans h.tape, k.output.trans h.output, Nat.le_trans h.size k.size, fun i hi hr => (k.block i (Nat.lt_of_lt_of_le hi h.size)).trans (h.block i hi hr)⟩
theorem But.alloc {R : Nat} {a b : World} (h : But R a b) (o : Obj) : But R a (b.alloc o) := h.below ((Below.refl _ _).alloc (Nat.le_refl _) o)
theorem But.drew {R : Nat} {a b : World} (h : But R a b) : But R a b.drew := h.below (Below.refl _ _).drew
theorem But.setCell {R : Nat} {a b : World} (h : But R a b) {p : Addr} (hp : a.heap.size ≤ p.block ∨ p.block = R) (u : Value) : But R a (b.setCell p u) := by
  refine ⟨h.os, h.tape, h.output, Nat.le_trans h.size (by simp), fun i hi hr => (Below.heap_setCell _ _ _ _ ?_).trans (h.block i hi hr)⟩
  omega
theorem cell_of_block {w w' : World} {b o : Nat} (h : w'.heap[b]? = w.heap[b]?) : w'.cell? ⟨b, o, none⟩ = w.cell? ⟨b, o, none⟩ := World.cell?_of_block (w := w) h
theorem TokAt.keep {w w' : World} {b o : Nat} {t : Tok} (h : TokAt w b o t) (hb : w'.heap[b]? = w.heap[b]?) : TokAt w' b o t :=
  ⟨(cell_of_block hb).trans h.1, (cell_of_block hb).trans h.2.1, (cell_of_block hb).trans h.2.2.1, (cell_of_block hb).trans h.2.2.2⟩
theorem St.below {Z R en : Nat} {w w' : World} {ts : List Tok} (h : St Z R en w ts) (hb : Below Z w w') : St Z R en w' ts := by
  obtain ⟨h1, h2, h3, a, cap, hr, hc, hm, hl, ht⟩ := h
  refine ⟨Nat.le_trans h1 hb.size, h2, h3, a, cap, (hb.block R h2).trans hr, hc, hm, hl, ?_⟩
  rcases ht with ht | ⟨b, off, e, hne, hbz, ht⟩
  · exact Or.inl ht
  · exact Or.inr ⟨b, off, e, hne, hbz, fun j t hj => (ht j t hj).keep (hb.block b hbz)⟩
/-- What a reader gives up with. -/
def Gone (en : Nat) (O : Out) (c p : Nat) : Prop := (c = 11 ∧ ∃ r, O = .no r ∧ p = place en r) ∨ (c = 15 ∧ O = .lim p)
theorem Hid.intro {p : Prop} (h : p) : Hid p := h
theorem new2 {w : World} {b t : Nat} {x y : Value} (h : w.heap[b]? = some (.cells #[x, y] t (0, 0))) : w.cell? ⟨b, 0, none⟩ = some x ∧ w.cell? ⟨b, 1, none⟩ = some y ∧ w.frozen? ⟨b, 0, none⟩ = false ∧ w.frozen? ⟨b, 1, none⟩ = false ∧ b < w.heap.size :=
  ⟨by simp [World.cell?, h], by simp [World.cell?, h], by simp [World.frozen?, h], by simp [World.frozen?, h], lt_of_block h⟩
/-- The next word, as it is told: behind the last one it is none. -/
def nextT (en : Nat) : List Tok → Tok
  | [] => ⟨0, [], 0, en⟩
  | t :: _ => t
theorem next_pos (en : Nat) (ts : List Tok) : (nextT en ts).pos = place en ts := by cases ts <;> rfl
theorem next_is {en : Nat} {s : List UInt8} (hs : s ≠ []) (ts : List Tok) : ((nextT en ts).text == s) = hd (isT s) ts := by
  cases ts with
  | nil => show ([] == s) = false; cases s with | nil => exact absurd rfl hs | cons => rfl
  | cons => rfl
theorem next_kind {en k : Nat} (hk : k ≠ 0) (ts : List Tok) : ((nextT en ts).kind == k) = hd (isK k) ts := by
  cases ts with
  | nil => show (0 == k) = false; rw [beq_eq_false_iff_ne]; omega
  | cons => rfl

set_option maxHeartbeats 2000000 in
theorem peek_any (Z R en : Nat) (ts : List Tok) (w : World) (h : St Z R en w ts) :
    Calls Tryd.prog 21 #[.pointer (some ⟨R, 0, none⟩)] w fun e w' => e = .returned (tkV (nextT en ts)) ∧ Below w.heap.size w w' := by
  obtain ⟨hz, hrz, _, a, cap, hr, hc, _, hl, ht⟩ := h
  obtain ⟨c0, c1, f0, f1, lr⟩ := new2 hr
  clear hr
  cases ts with
  | nil =>
    have E : ((([] : List Tok).length : Int) == 0) = true := rfl
    go_enter Tryd.func21, Tryd.ntmps21
    go_wp2
    refine bodyPost_ret (v := tkV (nextT en [])) (by simp [results, Tryd.results21, go_sem, tkV, nextT]) rfl ⟨rfl, ?_⟩
    exact (Below.refl _ _).alloc (Nat.le_refl _) _
  | cons t r =>
    rcases ht with ht | ⟨b, off, rfl, hne, hbz, ht⟩
    · cases ht
    obtain ⟨t0, t1, t2, t3⟩ := ht 0 t rfl
    clear ht
    rw [show off + 0 * 4 = off by omega] at t0 t1 t2 t3
    have E : (((t :: r).length : Int) == 0) = false := by rw [beq_eq_false_iff_ne]; simp; omega
    have E1 : (0 : Int) < ((t :: r).length : Int) := by simp
    have hb : b < w.heap.size := by omega
    generalize (t :: r).length = n at *
    go_enter Tryd.func21, Tryd.ntmps21
    go_wp2
    refine bodyPost_ret (v := tkV t) (by simp [results, Tryd.results21, go_sem, tkV]) rfl ⟨rfl, ?_⟩
    exact (Below.refl _ _).alloc (Nat.le_refl _) _
theorem heap_set0 {w : World} {b : Nat} {x y u : Value} (h : w.heap[b]? = some (.cells #[x, y] 50 (0, 0))) : (w.setCell ⟨b, 0, none⟩ u).heap[b]? = some (.cells #[u, y] 50 (0, 0)) := by
  rw [heap_setCell_same w b 0 _ 50 _ h]
  rfl
/-- The words but the first, as a slice. -/
theorem slice_rest (b off n cap : Nat) (hc : n + 1 ≤ cap) : ∃ a', (n = 0 ∨ a' = some ⟨b, off + 4, none⟩) ∧ ∀ W, (Instr.slice 24 (.slice (some ⟨b, off, none⟩) (n + 1) cap) (some (.int .i64 1)) none none).run Tryd.prog W = .ok (.slice a' n (cap - 1)) W := by
  refine ⟨if cap = 1 then some ⟨b, off, none⟩ else some ⟨b, off + 4, none⟩, ?_, fun W => ?_⟩
  · by_cases c : cap = 1
    · left; omega
    · right; rw [if_neg c]
  · have hu : Tryd.prog.underlying 24 = some (.slice (Tryd.prog.elem 24)) := by kernel_rfl
    have hz : (sizeOf (Tryd.prog.elem 24)).run Tryd.prog W = .ok 4 W := by kernel_rfl
    rw [run_slice_l W 24 _ _ _ hu .i64 1 (by omega) (by omega), hz]
    simp only [Result.andThen, sliced]
    by_cases c : cap = 1
    · subst c; simp
    · rw [if_neg (by simpa using c), if_neg c]
      simp [Addr.add]

theorem hs_other {w : World} {p : Addr} {u : Value} {k : Nat} {o : Obj} (hne : k ≠ p.block) (h : w.heap[k]? = some o) : (w.setCell p u).heap[k]? = some o := (Below.heap_setCell _ _ _ _ hne).trans h
theorem ha_old {w : World} {k : Nat} {o o' : Obj} (h : w.heap[k]? = some o) : (w.alloc o').heap[k]? = some o := (Below.heap_alloc _ _ _ (lt_of_block h)).trans h
theorem hb_old {n k : Nat} {w w' : World} {o : Obj} (hb : Below n w w') (hk : k < n) (h : w.heap[k]? = some o) : w'.heap[k]? = some o := (hb.block k hk).trans h
theorem St.step {Z R en : Nat} {w w' : World} {t : Tok} {r : List Tok} {a' : Option Addr} {cap cap' : Nat} (hsz : Z ≤ w'.heap.size) (hR : R < Z) (hf : ∀ u ∈ t :: r, u.val ≤ 999999999) (hn : r.length ≤ 1500)
    (hr : w'.heap[R]? = some (.cells #[.slice a' r.length cap', .int .i64 (en : Int)] 50 (0, 0))) (hc : r.length + 1 ≤ cap) (hc' : cap' = cap - 1) (hm : cap ≤ maxLen) {b off : Nat} (ha : r.length = 0 ∨ a' = some ⟨b, off + 4, none⟩) (hbR : b ≠ R) (hbZ : b < Z)
    (ht : ∀ j u, (t :: r)[j]? = some u → TokAt w b (off + j * 4) u) (hk : w'.heap[b]? = w.heap[b]?) : St Z R en w' r := by
  refine ⟨hsz, hR, fun u hu => hf u (List.mem_cons_of_mem _ hu), a', cap', hr, by omega, by omega, hn, ?_⟩
  rcases ha with ha | ha
  · exact Or.inl (List.length_eq_zero_iff.1 ha)
  · refine Or.inr ⟨b, off + 4, ha, hbR, hbZ, fun j u hj => ?_⟩
    have := (ht (j + 1) u (by rw [List.getElem?_cons_succ]; exact hj)).keep hk
    rw [show off + 4 + j * 4 = off + (j + 1) * 4 by omega]; exact this

set_option maxHeartbeats 4000000 in
theorem take_any (Z R en : Nat) (t : Tok) (r : List Tok) (w : World) (h : St Z R en w (t :: r)) :
    Calls Tryd.prog 32 #[.pointer (some ⟨R, 0, none⟩)] w fun e w' => e = .returned (tkV t) ∧ St Z R en w' r ∧ But R w w' := by
  have HP : Hid (∀ W : World, Below Z w W → Calls Tryd.prog 21 #[.pointer (some ⟨R, 0, none⟩)] W fun e w' => e = .returned (.agg #[.int .i64 t.kind, .string ⟨t.text.toArray⟩, .int .i64 t.val, .int .i64 t.pos]) ∧ Below W.heap.size W w') := fun W hW => peek_any Z R en (t :: r) W (h.below hW)
  obtain ⟨hz, hrz, hf, a, cap, hr, hc, hm, hl, ht⟩ := h
  rcases ht with ht | ⟨b, off, rfl, hne, hbz, ht⟩
  · cases ht
  rw [List.length_cons] at hr hc hl
  obtain ⟨a', ha', hs⟩ := slice_rest b off r.length cap hc
  have HR := Hid.intro hr
  have HA := Hid.intro ha'
  have HT := Hid.intro ht
  have HF := Hid.intro hf
  obtain ⟨c0, c1, f0, f1, lr⟩ := new2 hr
  clear hr ha' ht hf
  have E : (0 : Int) < ((r.length + 1 : Nat) : Int) := by omega
  generalize hn : r.length = n at *
  have HN := Hid.intro hn
  clear hn
  go_enter Tryd.func32, Tryd.ntmps32
  go_wp2_with (go_at_call 21; refine (HP.out _ ((Below.refl _ _).alloc hz _)).mono ?_; rintro e w1 ⟨rfl, hb1⟩; have l1 := hb1.size; (try simp at l1); have l2 : R < w1.heap.size := (by omega); have l3 : w.heap.size < w1.heap.size := (by omega); have l4 : R ≠ w.heap.size := (by omega); have l5 : R ≠ w1.heap.size := (by omega); have d0 : w1.cell? ⟨R, 0, none⟩ = some (.slice (some ⟨b, off, none⟩) (n + 1) cap) := (hb1.cell (p := ⟨R, 0, none⟩) (by simp; omega)).trans (by go_simp); have g0 : w1.frozen? ⟨R, 0, none⟩ = false := (hb1.frozen (p := ⟨R, 0, none⟩) (by simp; omega)).trans (by go_simp); have e0 : w1.cell? ⟨w.heap.size, 0, none⟩ = some (.int .i64 0) := (hb1.cell (p := ⟨w.heap.size, 0, none⟩) (by simp)).trans (by go_simp); have e1 : w1.cell? ⟨w.heap.size, 1, none⟩ = some (.string ⟨#[]⟩) := (hb1.cell (p := ⟨w.heap.size, 1, none⟩) (by simp)).trans (by go_simp); have e2 : w1.cell? ⟨w.heap.size, 2, none⟩ = some (.int .i64 0) := (hb1.cell (p := ⟨w.heap.size, 2, none⟩) (by simp)).trans (by go_simp); have e3 : w1.cell? ⟨w.heap.size, 3, none⟩ = some (.int .i64 0) := (hb1.cell (p := ⟨w.heap.size, 3, none⟩) (by simp)).trans (by go_simp); have g1 : w1.frozen? ⟨w.heap.size, 0, none⟩ = false := (hb1.frozen (p := ⟨w.heap.size, 0, none⟩) (by simp)).trans (by go_simp); have g2 : w1.frozen? ⟨w.heap.size, 1, none⟩ = false := (hb1.frozen (p := ⟨w.heap.size, 1, none⟩) (by simp)).trans (by go_simp); have g3 : w1.frozen? ⟨w.heap.size, 2, none⟩ = false := (hb1.frozen (p := ⟨w.heap.size, 2, none⟩) (by simp)).trans (by go_simp); have g4 : w1.frozen? ⟨w.heap.size, 3, none⟩ = false := (hb1.frozen (p := ⟨w.heap.size, 3, none⟩) (by simp)).trans (by go_simp))
  refine bodyPost_ret (v := tkV t) (by simp [results, Tryd.results32, go_sem, tkV, World.cell?_setCell_other, e0, e1, e2, e3, l3]) rfl ⟨rfl, ?_, ?_⟩
  · refine St.step (w := w) (b := b) (off := off) (cap := cap) (cap' := cap - 1) (a' := a') (by simp; omega) hrz HF.out (by rw [HN.out]; omega) ?_ (by rw [HN.out]; exact hc) rfl hm (by rw [HN.out]; exact HA.out) hne hbz HT.out ?_
    · rw [HN.out]
      refine ha_old (hs_other l4 (hs_other l4 (hs_other l4 (hs_other l4 (heap_set0 (x := .slice (some ⟨b, off, none⟩) (n + 1) cap) ?_)))))
      exact hb_old hb1 (by simp; omega) (ha_old HR.out)
    · rw [Below.heap_alloc _ _ _ (by simp; omega), Below.heap_setCell _ _ _ _ (by dsimp only; omega), Below.heap_setCell _ _ _ _ (by dsimp only; omega), Below.heap_setCell _ _ _ _ (by dsimp only; omega), Below.heap_setCell _ _ _ _ (by dsimp only; omega), Below.heap_setCell _ _ _ _ hne, hb1.block b (by simp; omega), Below.heap_alloc _ _ _ (by omega)]
  · exact ((((((((But.refl R w).alloc _).below hb1).setCell (Or.inr rfl) _).setCell (Or.inl (Nat.le_refl _)) _).setCell (Or.inl (Nat.le_refl _)) _).setCell (Or.inl (Nat.le_refl _)) _).setCell (Or.inl (Nat.le_refl _)) _).alloc _
end Go.Proofs.YtlkidgilhlpjhaaDoor
