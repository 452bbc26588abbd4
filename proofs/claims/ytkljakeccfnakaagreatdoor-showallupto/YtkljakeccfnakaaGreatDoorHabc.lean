/-
  The reader's state in memory, and the walks of its small functions.
  The walks of the reader's tests and takings: what each does to a reader's tree of tests.
  Expressions in memory; how a reader's functions end.
-/
import Derived.Test.YtkljakeccfnakaaGreatDoorUu
import Derived.Test.YtkljakeccfnakaaGreatDoorGg
import Derived.BigRegion
import Derived.RegionTactic
import Derived.Deep.RegionHeld3
import Derived.Deep.Cut
namespace Go.Proofs.YtkljakeccfnakaaGreatDoor
open Go.RowKit

/-- A word as a value. -/
def tkV (t : Tok) : Value := .agg #[.int .i64 t.kind, .string ⟨t.text.toArray⟩, .int .i64 t.val, .int .i64 t.pos]
/-- Four cells of a word. -/
def TokAt (w : World) (b o : Nat) (t : Tok) : Prop :=
  w.cell? ⟨b, o, none⟩ = some (.int .i64 t.kind) ∧ w.cell? ⟨b, o + 1, none⟩ = some (.string ⟨t.text.toArray⟩) ∧ w.cell? ⟨b, o + 2, none⟩ = some (.int .i64 t.val) ∧ w.cell? ⟨b, o + 3, none⟩ = some (.int .i64 t.pos)
/-- The reader lies at R, and the words ts are left; R and the words lie ahead of Z. -/
structure St (Z R en : Nat) (w : World) (ts : List Tok) : Prop where
  size : Z ≤ w.heap.size
  rz : R < Z
  fine : ∀ t ∈ ts, t.val ≤ 999999999
  ex : ∃ (a : Option Addr) (cap : Nat), w.heap[R]? = some (.cells #[.slice a ts.length cap, .int .i64 (en : Int)] 75 (0, 0)) ∧ ts.length ≤ cap ∧ cap ≤ maxLen ∧ ts.length ≤ 1500 ∧
    (ts = [] ∨ ∃ b off, a = some ⟨b, off, none⟩ ∧ b ≠ R ∧ b < Z ∧ ∀ j t, ts[j]? = some t → TokAt w b (off + j * 4) t)
/-- All but R is as it was. -/
structure But (R : Nat) (w w' : World) : Prop where
  os : w'.os = w.os
  tape : w'.tape = w.tape
  output : w'.output = w.output
  size : w.heap.size ≤ w'.heap.size
  block : ∀ k, k < w.heap.size → k ≠ R → w'.heap[k]? = w.heap[k]?
theorem But.refl (R : Nat) (w : World) : But R w w := ⟨rfl, rfl, rfl, Nat.le_refl _, fun _ _ _ => rfl⟩
theorem But.trans {R : Nat} {a b c : World} (h : But R a b) (k : But R b c) : But R a c :=
  ⟨k.os.trans h.os, k.tape.trans h.tape, k.output.trans h.output, Nat.le_trans h.size k.size, fun i hi hr => (k.block i (Nat.lt_of_lt_of_le hi h.size) hr).trans (h.block i hi hr)⟩
theorem But.below {R : Nat} {a b c : World} (h : But R a b) (k : Below b.heap.size b c) : But R a c :=
  ⟨k.os.trans h.os, k.tape.trans h.tape, k.output.trans h.output, Nat.le_trans h.size k.size, fun i hi hr => (k.block i (Nat.lt_of_lt_of_le hi h.size)).trans (h.block i hi hr)⟩
theorem But.alloc {R : Nat} {a b : World} (h : But R a b) (o : Obj) : But R a (b.alloc o) := h.below ((Below.refl _ _).alloc (Nat.le_refl _) o)
theorem But.drew {R : Nat} {a b : World} (h : But R a b) : But R a b.drew := h.below (Below.refl _ _).drew
theorem But.setCell {R : Nat} {a b : World} (h : But R a b) {p : Addr} (hp : a.heap.size ≤ p.block ∨ p.block = R) (u : Value) : But R a (b.setCell p u) := by
  refine ⟨h.os, h.tape, h.output, Nat.le_trans h.size (by simp), fun i hi hr => (Below.heap_setCell _ _ _ _ ?_).trans (h.block i hi hr)⟩
  omega
theorem cell_of_block {w w' : World} {b o : Nat} (h : w'.heap[b]? = w.heap[b]?) : w'.cell? ⟨b, o, none⟩ = w.cell? ⟨b, o, none⟩ := World.cell?_of_block (w := w) h
theorem TokAt.keep {w w' : World} {b o : Nat} {t : Tok} (h : TokAt w b o t) (hb : w'.heap[b]? = w.heap[b]?) : TokAt w' b o t :=
  ⟨(cell_of_block hb).trans h.1, (cell_of_block hb).trans h.2.1, (cell_of_block hb).trans h.2.2.1, (cell_of_block hb).trans h.2.2.2⟩
theorem St.below {Z R en : Nat} {w w' : World} {ts : List Tok} (h : St Z R en w ts) (hb : Below Z w w') : St Z R en w' ts := by
  obtain ⟨h1, h2, h3, a, cap, hr, hc, hm, hl, ht⟩ := h
  refine ⟨Nat.le_trans h1 hb.size, h2, h3, a, cap, (hb.block R h2).trans hr, hc, hm, hl, ?_⟩
  rcases ht with ht | ⟨b, off, e, hne, hbz, ht⟩
  · exact Or.inl ht
  · exact Or.inr ⟨b, off, e, hne, hbz, fun j t hj => (ht j t hj).keep (hb.block b hbz)⟩
/-- What a reader gives up with. -/
def Gone (en : Nat) (O : Out) (c p : Nat) : Prop := (c = 11 ∧ ∃ r, O = .no r ∧ p = place en r) ∨ (c = 15 ∧ O = .lim p)
theorem Hid.intro {p : Prop} (h : p) : Hid p := h
theorem new2 {w : World} {b t : Nat} {x y : Value} (h : w.heap[b]? = some (.cells #[x, y] t (0, 0))) : w.cell? ⟨b, 0, none⟩ = some x ∧ w.cell? ⟨b, 1, none⟩ = some y ∧ w.frozen? ⟨b, 0, none⟩ = false ∧ w.frozen? ⟨b, 1, none⟩ = false ∧ b < w.heap.size :=
  ⟨by simp [World.cell?, h], by simp [World.cell?, h], by simp [World.frozen?, h], by simp [World.frozen?, h], lt_of_block h⟩
/-- The next word, as it is told: behind the last one it is none. -/
def nextT (en : Nat) : List Tok → Tok
  | [] => ⟨0, [], 0, en⟩
  | t :: _ => t
theorem next_pos (en : Nat) (ts : List Tok) : (nextT en ts).pos = place en ts := by cases ts <;> rfl
theorem next_is {en : Nat} {s : List UInt8} (hs : s ≠ []) (ts : List Tok) : ((nextT en ts).text == s) = hd (isT s) ts := by
  cases ts with
  | nil => show ([] == s) = false; cases s with | nil => exact absurd rfl hs | cons => rfl
  | cons => rfl
theorem next_kind {en k : Nat} (hk : k ≠ 0) (ts : List Tok) : ((nextT en ts).kind == k) = hd (isK k) ts := by
  cases ts with
  | nil => show (0 == k) = false; rw [beq_eq_false_iff_ne]; omega
  | cons => rfl

set_option maxHeartbeats 2000000 in
theorem peek_any (Z R en : Nat) (ts : List Tok) (w : World) (h : St Z R en w ts) :
    Calls Tryz.prog 74 #[.pointer (some ⟨R, 0, none⟩)] w fun e w' => e = .returned (tkV (nextT en ts)) ∧ Below w.heap.size w w' := by
  obtain ⟨hz, hrz, _, a, cap, hr, hc, _, hl, ht⟩ := h
  obtain ⟨c0, c1, f0, f1, lr⟩ := new2 hr
  clear hr
  cases ts with
  | nil =>
    have E : ((([] : List Tok).length : Int) == 0) = true := rfl
    go_enter Tryz.func74, Tryz.ntmps74
    go_wp2
    refine bodyPost_ret (v := tkV (nextT en [])) (by simp [results, Tryz.results74, go_sem, tkV, nextT]) rfl ⟨rfl, ?_⟩
    exact (Below.refl _ _).alloc (Nat.le_refl _) _
  | cons t r =>
    rcases ht with ht | ⟨b, off, rfl, hne, hbz, ht⟩
    · cases ht
    obtain ⟨t0, t1, t2, t3⟩ := ht 0 t rfl
    clear ht
    rw [show off + 0 * 4 = off by omega] at t0 t1 t2 t3
    have E : (((t :: r).length : Int) == 0) = false := by rw [beq_eq_false_iff_ne]; simp; omega
    have E1 : (0 : Int) < ((t :: r).length : Int) := by simp
    have hb : b < w.heap.size := by omega
    generalize (t :: r).length = n at *
    go_enter Tryz.func74, Tryz.ntmps74
    go_wp2
    refine bodyPost_ret (v := tkV t) (by simp [results, Tryz.results74, go_sem, tkV]) rfl ⟨rfl, ?_⟩
    exact (Below.refl _ _).alloc (Nat.le_refl _) _
theorem heap_set0 {w : World} {b : Nat} {x y u : Value} (h : w.heap[b]? = some (.cells #[x, y] 75 (0, 0))) : (w.setCell ⟨b, 0, none⟩ u).heap[b]? = some (.cells #[u, y] 75 (0, 0)) := by
  rw [heap_setCell_same w b 0 _ 75 _ h]
  rfl
/-- The words but the first, as a slice. -/
theorem slice_rest (b off n cap : Nat) (hc : n + 1 ≤ cap) : ∃ a', (n = 0 ∨ a' = some ⟨b, off + 4, none⟩) ∧ ∀ W, (Instr.slice 33 (.slice (some ⟨b, off, none⟩) (n + 1) cap) (some (.int .i64 1)) none none).run Tryz.prog W = .ok (.slice a' n (cap - 1)) W := by
  refine ⟨if cap = 1 then some ⟨b, off, none⟩ else some ⟨b, off + 4, none⟩, ?_, fun W => ?_⟩
  · by_cases c : cap = 1
    · left; omega
    · right; rw [if_neg c]
  · have hu : Tryz.prog.underlying 33 = some (.slice (Tryz.prog.elem 33)) := by kernel_rfl
    have hz : (sizeOf (Tryz.prog.elem 33)).run Tryz.prog W = .ok 4 W := by kernel_rfl
    rw [run_slice_l W 33 _ _ _ hu .i64 1 (by omega) (by omega), hz]
    simp only [Result.andThen, sliced]
    by_cases c : cap = 1
    · subst c; simp
    · rw [if_neg (by simpa using c), if_neg c]
      simp [Addr.add]

theorem hs_other {w : World} {p : Addr} {u : Value} {k : Nat} {o : Obj} (hne : k ≠ p.block) (h : w.heap[k]? = some o) : (w.setCell p u).heap[k]? = some o := (Below.heap_setCell _ _ _ _ hne).trans h
theorem ha_old {w : World} {k : Nat} {o o' : Obj} (h : w.heap[k]? = some o) : (w.alloc o').heap[k]? = some o := (Below.heap_alloc _ _ _ (lt_of_block h)).trans h
theorem hb_old {n k : Nat} {w w' : World} {o : Obj} (hb : Below n w w') (hk : k < n) (h : w.heap[k]? = some o) : w'.heap[k]? = some o := (hb.block k hk).trans h
theorem St.step {Z R en : Nat} {w w' : World} {t : Tok} {r : List Tok} {a' : Option Addr} {cap cap' : Nat} (hsz : Z ≤ w'.heap.size) (hR : R < Z) (hf : ∀ u ∈ t :: r, u.val ≤ 999999999) (hn : r.length ≤ 1500)
    (hr : w'.heap[R]? = some (.cells #[.slice a' r.length cap', .int .i64 (en : Int)] 75 (0, 0))) (hc : r.length + 1 ≤ cap) (hc' : cap' = cap - 1) (hm : cap ≤ maxLen) {b off : Nat} (ha : r.length = 0 ∨ a' = some ⟨b, off + 4, none⟩) (hbR : b ≠ R) (hbZ : b < Z)
    (ht : ∀ j u, (t :: r)[j]? = some u → TokAt w b (off + j * 4) u) (hk : w'.heap[b]? = w.heap[b]?) : St Z R en w' r := by
  refine ⟨hsz, hR, fun u hu => hf u (List.mem_cons_of_mem _ hu), a', cap', hr, by omega, by omega, hn, ?_⟩
  rcases ha with ha | ha
  · exact Or.inl (List.length_eq_zero_iff.1 ha)
  · refine Or.inr ⟨b, off + 4, ha, hbR, hbZ, fun j u hj => ?_⟩
    have := (ht (j + 1) u (by rw [List.getElem?_cons_succ]; exact hj)).keep hk
    rw [show off + 4 + j * 4 = off + (j + 1) * 4 by omega]; exact this

set_option maxHeartbeats 4000000 in
theorem take_any (Z R en : Nat) (t : Tok) (r : List Tok) (w : World) (h : St Z R en w (t :: r)) :
    Calls Tryz.prog 102 #[.pointer (some ⟨R, 0, none⟩)] w fun e w' => e = .returned (tkV t) ∧ St Z R en w' r ∧ But R w w' := by
  have HP : Hid (∀ W : World, Below Z w W → Calls Tryz.prog 74 #[.pointer (some ⟨R, 0, none⟩)] W fun e w' => e = .returned (.agg #[.int .i64 t.kind, .string ⟨t.text.toArray⟩, .int .i64 t.val, .int .i64 t.pos]) ∧ Below W.heap.size W w') := fun W hW => peek_any Z R en (t :: r) W (h.below hW)
  obtain ⟨hz, hrz, hf, a, cap, hr, hc, hm, hl, ht⟩ := h
  rcases ht with ht | ⟨b, off, rfl, hne, hbz, ht⟩
  · cases ht
  rw [List.length_cons] at hr hc hl
  obtain ⟨a', ha', hs⟩ := slice_rest b off r.length cap hc
  have HR := Hid.intro hr
  have HA := Hid.intro ha'
  have HT := Hid.intro ht
  have HF := Hid.intro hf
  obtain ⟨c0, c1, f0, f1, lr⟩ := new2 hr
  clear hr ha' ht hf
  have E : (0 : Int) < ((r.length + 1 : Nat) : Int) := by omega
  generalize hn : r.length = n at *
  have HN := Hid.intro hn
  clear hn
  go_enter Tryz.func102, Tryz.ntmps102
  go_wp2_with (go_at_call 74; refine (HP.out _ ((Below.refl _ _).alloc hz _)).mono ?_; rintro e w1 ⟨rfl, hb1⟩; have l1 := hb1.size; (try simp at l1); have l2 : R < w1.heap.size := (by omega); have l3 : w.heap.size < w1.heap.size := (by omega); have l4 : R ≠ w.heap.size := (by omega); have l5 : R ≠ w1.heap.size := (by omega); have d0 : w1.cell? ⟨R, 0, none⟩ = some (.slice (some ⟨b, off, none⟩) (n + 1) cap) := (hb1.cell (p := ⟨R, 0, none⟩) (by simp; omega)).trans (by go_simp); have g0 : w1.frozen? ⟨R, 0, none⟩ = false := (hb1.frozen (p := ⟨R, 0, none⟩) (by simp; omega)).trans (by go_simp); have e0 : w1.cell? ⟨w.heap.size, 0, none⟩ = some (.int .i64 0) := (hb1.cell (p := ⟨w.heap.size, 0, none⟩) (by simp)).trans (by go_simp); have e1 : w1.cell? ⟨w.heap.size, 1, none⟩ = some (.string ⟨#[]⟩) := (hb1.cell (p := ⟨w.heap.size, 1, none⟩) (by simp)).trans (by go_simp); have e2 : w1.cell? ⟨w.heap.size, 2, none⟩ = some (.int .i64 0) := (hb1.cell (p := ⟨w.heap.size, 2, none⟩) (by simp)).trans (by go_simp); have e3 : w1.cell? ⟨w.heap.size, 3, none⟩ = some (.int .i64 0) := (hb1.cell (p := ⟨w.heap.size, 3, none⟩) (by simp)).trans (by go_simp); have g1 : w1.frozen? ⟨w.heap.size, 0, none⟩ = false := (hb1.frozen (p := ⟨w.heap.size, 0, none⟩) (by simp)).trans (by go_simp); have g2 : w1.frozen? ⟨w.heap.size, 1, none⟩ = false := (hb1.frozen (p := ⟨w.heap.size, 1, none⟩) (by simp)).trans (by go_simp); have g3 : w1.frozen? ⟨w.heap.size, 2, none⟩ = false := (hb1.frozen (p := ⟨w.heap.size, 2, none⟩) (by simp)).trans (by go_simp); have g4 : w1.frozen? ⟨w.heap.size, 3, none⟩ = false := (hb1.frozen (p := ⟨w.heap.size, 3, none⟩) (by simp)).trans (by go_simp))
  refine bodyPost_ret (v := tkV t) (by simp [results, Tryz.results102, go_sem, tkV, World.cell?_setCell_other, e0, e1, e2, e3, l3]) rfl ⟨rfl, ?_, ?_⟩
  · refine St.step (w := w) (b := b) (off := off) (cap := cap) (cap' := cap - 1) (a' := a') (by simp; omega) hrz HF.out (by rw [HN.out]; omega) ?_ (by rw [HN.out]; exact hc) rfl hm (by rw [HN.out]; exact HA.out) hne hbz HT.out ?_
    · rw [HN.out]
      refine ha_old (hs_other l4 (hs_other l4 (hs_other l4 (hs_other l4 (heap_set0 (x := .slice (some ⟨b, off, none⟩) (n + 1) cap) ?_)))))
      exact hb_old hb1 (by simp; omega) (ha_old HR.out)
    · rw [Below.heap_alloc _ _ _ (by simp; omega), Below.heap_setCell _ _ _ _ (by dsimp only; omega), Below.heap_setCell _ _ _ _ (by dsimp only; omega), Below.heap_setCell _ _ _ _ (by dsimp only; omega), Below.heap_setCell _ _ _ _ (by dsimp only; omega), Below.heap_setCell _ _ _ _ hne, hb1.block b (by simp; omega), Below.heap_alloc _ _ _ (by omega)]
  · exact ((((((((But.refl R w).alloc _).below hb1).setCell (Or.inr rfl) _).setCell (Or.inl (Nat.le_refl _)) _).setCell (Or.inl (Nat.le_refl _)) _).setCell (Or.inl (Nat.le_refl _)) _).setCell (Or.inl (Nat.le_refl _)) _).alloc _
end Go.Proofs.YtkljakeccfnakaaGreatDoor

namespace Go.Proofs.YtkljakeccfnakaaGreatDoor
open Go.RowKit

theorem St.to {Z R en : Nat} {w w' : World} {ts : List Tok} (h : St Z R en w ts) (hb : Below w.heap.size w w') : St Z R en w' ts := h.below (hb.mono h.size)
theorem But.of {R : Nat} {w w' : World} (hb : Below w.heap.size w w') : But R w w' := (But.refl R w).below hb
theorem ba {w w1 : World} {o : Obj} (h : Below w.heap.size w w1) : Below w.heap.size w (w1.alloc o) := h.alloc h.size o
theorem bl2 {w w1 w2 : World} (h1 : Below w.heap.size w w1) (h2 : Below w1.heap.size w1 w2) : Below w.heap.size w w2 := h1.trans (h2.mono h1.size)

/-- The four cells of a block that was there. -/
theorem keep4 {R : Nat} {W w1 : World} (hb : But R W w1) (b : Nat) (hne : b ≠ R) (x y u v : Value) (h : b < W.heap.size) (hx : W.cell? ⟨b, 0, none⟩ = some x) (hy : W.cell? ⟨b, 1, none⟩ = some y) (hu : W.cell? ⟨b, 2, none⟩ = some u) (hv : W.cell? ⟨b, 3, none⟩ = some v) (hf : ∀ o, W.frozen? ⟨b, o, none⟩ = false) :
    (w1.cell? ⟨b, 0, none⟩ = some x ∧ w1.cell? ⟨b, 1, none⟩ = some y ∧ w1.cell? ⟨b, 2, none⟩ = some u ∧ w1.cell? ⟨b, 3, none⟩ = some v) ∧ (∀ o, w1.frozen? ⟨b, o, none⟩ = false) ∧ b < w1.heap.size := by
  have e := hb.block b h hne
  refine ⟨⟨(cell_of_block e).trans hx, (cell_of_block e).trans hy, (cell_of_block e).trans hu, (cell_of_block e).trans hv⟩, fun o => ?_, Nat.lt_of_lt_of_le h hb.size⟩
  have := hf o
  simp only [World.frozen?] at this ⊢
  rw [e]; exact this

theorem fld0 (a b c d : Value) (w : World) : Sem.run Tryz.prog (Instr.field 107 (.agg #[a, b, c, d]) 0) w = .ok a w := by kernel_rfl
theorem fld1 (a b c d : Value) (w : World) : Sem.run Tryz.prog (Instr.field 107 (.agg #[a, b, c, d]) 1) w = .ok b w := by kernel_rfl
theorem fld2 (a b c d : Value) (w : World) : Sem.run Tryz.prog (Instr.field 107 (.agg #[a, b, c, d]) 2) w = .ok c w := by kernel_rfl
theorem fld3 (a b c d : Value) (w : World) : Sem.run Tryz.prog (Instr.field 107 (.agg #[a, b, c, d]) 3) w = .ok d w := by kernel_rfl

set_option maxHeartbeats 4000000 in
theorem sees_any (Z R en : Nat) (ts : List Tok) (s : ByteArray) (hs : s.data.toList ≠ []) (w : World) (h : St Z R en w ts) :
    Calls Tryz.prog 77 #[.pointer (some ⟨R, 0, none⟩), .string s] w fun e w' => e = .returned (.bool (hd (isT s.data.toList) ts)) ∧ Below w.heap.size w w' := by
  have HP : Hid (Calls Tryz.prog 74 #[.pointer (some ⟨R, 0, none⟩)] w fun e w' => e = .returned (.agg #[.int .i64 (nextT en ts).kind, .string ⟨(nextT en ts).text.toArray⟩, .int .i64 (nextT en ts).val, .int .i64 (nextT en ts).pos]) ∧ Below w.heap.size w w') := peek_any Z R en ts w h
  have E : Hid (hd (isT s.data.toList) ts = ((nextT en ts).text == s.data.toList)) := (next_is hs ts).symm
  clear h hs
  generalize nextT en ts = t at *
  have F1 := fld1
  go_enter Tryz.func77, Tryz.ntmps77
  go_wp2_with (go_at_call 74; refine HP.out.mono ?_; rintro e w1 ⟨rfl, hb1⟩)
  go_ret
  exact ⟨ret_bool (by rw [E.out, Lib.toList_data]), hb1⟩

/-- The reader gives up. -/
theorem stop_any (Z R en : Nat) (ts : List Tok) (w : World) (h : St Z R en w ts) :
    Calls Tryz.prog 129 #[.pointer (some ⟨R, 0, none⟩)] w fun e w' => e = .panicked [{ v := .iface 73 (.agg #[.int .i64 11, .int .i64 (place en ts : Nat)]), recovered := false }] ∧ Below w.heap.size w w' := by
  have HP : Hid (Calls Tryz.prog 74 #[.pointer (some ⟨R, 0, none⟩)] w fun e w' => e = .returned (.agg #[.int .i64 (nextT en ts).kind, .string ⟨(nextT en ts).text.toArray⟩, .int .i64 (nextT en ts).val, .int .i64 (nextT en ts).pos]) ∧ Below w.heap.size w w') := peek_any Z R en ts w h
  have E : Hid ((nextT en ts).pos = place en ts) := next_pos en ts
  clear h
  generalize nextT en ts = t at *
  generalize place en ts = p at *
  have F3 := fld3
  go_enter Tryz.func129, Tryz.ntmps129
  go_wp2_with (go_at_call 74; refine HP.out.mono ?_; rintro e w1 ⟨rfl, hb1⟩)
  refine ⟨rfl, ?_, hb1⟩
  rw [E.out]

set_option maxHeartbeats 4000000 in
theorem seesSecond_any (Z R en : Nat) (ts : List Tok) (s : ByteArray) (w : World) (h : St Z R en w ts) :
    Calls Tryz.prog 148 #[.pointer (some ⟨R, 0, none⟩), .string s] w fun e w' => e = .returned (.bool (hd (isT s.data.toList) ts.tail)) ∧ Below w.heap.size w w' := by
  obtain ⟨hz, hrz, _, a, cap, hr, hc, _, hl, ht⟩ := h
  obtain ⟨c0, c1, f0, f1, lr⟩ := new2 hr
  clear hr
  cases ts with
  | nil =>
    have E : ¬ (1 : Int) < ((([] : List Tok).length : Nat) : Int) := by simp
    generalize ([] : List Tok).length = n at *
    go_enter Tryz.func148, Tryz.ntmps148
    go_wp2
    go_ret
    exact ⟨rfl, Below.refl _ _⟩
  | cons u us => cases us with
    | nil =>
      have E : ¬ (1 : Int) < ((([u] : List Tok).length : Nat) : Int) := by simp
      generalize ([u] : List Tok).length = n at *
      go_enter Tryz.func148, Tryz.ntmps148
      go_wp2
      go_ret
      exact ⟨rfl, Below.refl _ _⟩
    | cons t r =>
      rcases ht with ht | ⟨b, off, rfl, hne, hbz, ht⟩
      · cases ht
      obtain ⟨t0, t1, t2, t3⟩ := ht 1 t rfl
      clear ht
      rw [show off + 1 * 4 = off + 4 by omega] at t0 t1 t2 t3
      have E1 : (1 : Int) < ((u :: t :: r).length : Int) := by simp; omega
      have hb : b < w.heap.size := by omega
      generalize (u :: t :: r).length = n at *
      go_enter Tryz.func148, Tryz.ntmps148
      go_wp2
      go_ret
      exact ⟨ret_bool (by rw [Lib.toList_data]; rfl), Below.refl _ _⟩

section
variable {Z R en : Nat} {Rr : Sym → List Tok → Out} {O : Out}
set_option maxHeartbeats 4000000 in
/-- A test with a taking. -/
theorem may_step {a b : Cmd} {ts : List Tok} (s : ByteArray) (hs : s.data.toList ≠ []) (w : World) (h : St Z R en w ts) (hg : runC en Rr (mayC s.data.toList a b) ts = O) :
    Calls Tryz.prog 128 #[.pointer (some ⟨R, 0, none⟩), .string s] w fun e w' => But R w w' ∧ ((e = .returned (.bool true) ∧ ∃ r, St Z R en w' r ∧ runC en Rr a r = O) ∨ (e = .returned (.bool false) ∧ St Z R en w' ts ∧ runC en Rr b ts = O)) := by
  have HS : Hid (Calls Tryz.prog 77 #[.pointer (some ⟨R, 0, none⟩), .string s] w fun e w' => e = .returned (.bool (hd (isT s.data.toList) ts)) ∧ Below w.heap.size w w') := sees_any Z R en ts s hs w h
  cases c : hd (isT s.data.toList) ts
  · have G : Hid (runC en Rr b ts = O) := by show _ = _; rw [← hg]; simp [mayC, runC, c]
    rw [c] at HS
    have H := Hid.intro h
    clear hg c h
    go_enter Tryz.func128, Tryz.ntmps128
    go_wp2_with (go_at_call 77; refine HS.out.mono ?_; rintro e w1 ⟨rfl, hb1⟩)
    go_ret
    exact ⟨But.of hb1, Or.inr ⟨rfl, H.out.to hb1, G.out⟩⟩
  · cases ts with
    | nil => cases c
    | cons t r =>
      have G : Hid (runC en Rr a r = O) := by show _ = _; rw [← hg]; simp [mayC, runC, c]
      rw [c] at HS
      have H := Hid.intro h
      clear hg c h
      go_enter Tryz.func128, Tryz.ntmps128
      go_wp2_with (first | (go_at_call 77; refine HS.out.mono ?_; rintro e w1 ⟨rfl, hb1⟩) | (go_at_call 102; refine (take_any Z R en t r _ (H.out.to hb1)).mono ?_; rintro e w2 ⟨rfl, h2, hb2⟩; unfold tkV))
      go_ret
      exact ⟨(But.of hb1).trans hb2, Or.inl ⟨rfl, r, h2, G.out⟩⟩

set_option maxHeartbeats 4000000 in
/-- A word that has to stand there. -/
theorem must_step {k : Tok → Cmd} {ts : List Tok} (s : ByteArray) (hs : s.data.toList ≠ []) (w : World) (h : St Z R en w ts) (hg : runC en Rr (mustC s.data.toList k) ts = O) :
    Calls Tryz.prog 106 #[.pointer (some ⟨R, 0, none⟩), .string s] w fun e w' => But R w w' ∧ ((∃ t r, e = .returned (.agg #[.int .i64 (t).kind, .string ⟨(t).text.toArray⟩, .int .i64 (t).val, .int .i64 (t).pos]) ∧ St Z R en w' r ∧ runC en Rr (k t) r = O) ∨ (∃ c p : Nat, e = .panicked [{ v := .iface 73 (.agg #[.int .i64 c, .int .i64 p]), recovered := false }] ∧ Gone en O c p)) := by
  have HS : Hid (∀ W, Below w.heap.size w W → Calls Tryz.prog 77 #[.pointer (some ⟨R, 0, none⟩), .string s] W fun e w' => e = .returned (.bool (hd (isT s.data.toList) ts)) ∧ Below W.heap.size W w') := fun W hW => sees_any Z R en ts s hs W (h.to hW)
  cases c : hd (isT s.data.toList) ts
  · have G : Hid (Gone en O 11 (place en ts)) := Or.inl ⟨rfl, ts, by rw [← hg]; simp [mustC, runC, c], rfl⟩
    rw [c] at HS
    have H := Hid.intro h
    clear hg c h
    go_enter Tryz.func106, Tryz.ntmps106
    go_wp2_with (first | (go_at_call 77; refine (HS.out _ (ba (Below.refl _ _))).mono ?_; rintro e w1 ⟨rfl, hb1⟩) | (go_at_call 129; refine (stop_any Z R en ts _ (H.out.to (bl2 (ba (Below.refl _ _)) hb1))).mono ?_; rintro e w2 ⟨rfl, hb2⟩))
    exact ⟨rfl, But.of (bl2 (bl2 (ba (Below.refl _ _)) hb1) hb2), Or.inr ⟨11, _, rfl, G.out⟩⟩
  · cases ts with
    | nil => cases c
    | cons t r =>
      have G : Hid (runC en Rr (k t) r = O) := by show _ = _; rw [← hg]; simp [mustC, runC, c]
      rw [c] at HS
      have H := Hid.intro h
      have lr : Z ≤ w.heap.size ∧ R < Z := ⟨h.size, h.rz⟩
      clear hg c h
      go_enter Tryz.func106, Tryz.ntmps106
      go_wp2_with (first | (go_at_call 77; refine (HS.out _ (ba (Below.refl _ _))).mono ?_; rintro e w1 ⟨rfl, hb1⟩) | (go_at_call 102; refine (take_any Z R en t r _ (H.out.to (bl2 (ba (Below.refl _ _)) hb1))).mono ?_; rintro e w2 ⟨rfl, h2, hb2⟩; unfold tkV; obtain ⟨⟨z0, z1, z2, z3⟩, zf, zl⟩ := keep4 ((But.of (R := R) hb1).trans hb2) w.heap.size (by omega) (.int .i64 0) (.string ⟨#[]⟩) (.int .i64 0) (.int .i64 0) (by simp) (by go_simp) (by go_simp) (by go_simp) (by go_simp) (by go_simp); have zf0 := zf 0; have zf1 := zf 1; have zf2 := zf 2; have zf3 := zf 3))
      refine bodyPost_ret (v := .agg #[.int .i64 (t).kind, .string ⟨(t).text.toArray⟩, .int .i64 (t).val, .int .i64 (t).pos]) (by simp [results, Tryz.results106, go_sem, World.cell?_setCell_other, z0, z1, z2, z3]) rfl ⟨?_, Or.inl ⟨t, r, rfl, ?_, G.out⟩⟩
      · exact ((((((But.of (ba (Below.refl _ _))).below hb1).trans hb2).setCell (Or.inl (Nat.le_refl _)) _).setCell (Or.inl (Nat.le_refl _)) _).setCell (Or.inl (Nat.le_refl _)) _).setCell (Or.inl (Nat.le_refl _)) _
      · exact h2.below (((((Below.refl _ _).setCell lr.1 _).setCell lr.1 _).setCell lr.1 _).setCell lr.1 _)

set_option maxHeartbeats 4000000 in
/-- A word of a kind that has to stand there. -/
theorem kind_step {k : Tok → Cmd} {ts : List Tok} (n : Nat) (hn : n ≠ 0) (w : World) (h : St Z R en w ts) (hg : runC en Rr (kindC n k) ts = O) :
    Calls Tryz.prog 127 #[.pointer (some ⟨R, 0, none⟩), .int .i64 (n : Int)] w fun e w' => But R w w' ∧ ((∃ t r, e = .returned (.agg #[.int .i64 (t).kind, .string ⟨(t).text.toArray⟩, .int .i64 (t).val, .int .i64 (t).pos]) ∧ St Z R en w' r ∧ t.val ≤ 999999999 ∧ runC en Rr (k t) r = O) ∨ (∃ c p : Nat, e = .panicked [{ v := .iface 73 (.agg #[.int .i64 c, .int .i64 p]), recovered := false }] ∧ Gone en O c p)) := by
  have HP : Hid (∀ W, Below w.heap.size w W → Calls Tryz.prog 74 #[.pointer (some ⟨R, 0, none⟩)] W fun e w' => e = .returned (.agg #[.int .i64 (nextT en ts).kind, .string ⟨(nextT en ts).text.toArray⟩, .int .i64 (nextT en ts).val, .int .i64 (nextT en ts).pos]) ∧ Below W.heap.size W w') := fun W hW => peek_any Z R en ts W (h.to hW)
  have E : ((nextT en ts).kind == n) = hd (isK n) ts := next_kind hn ts
  have F0 := fld0
  cases c : hd (isK n) ts
  · have G : Hid (Gone en O 11 (place en ts)) := Or.inl ⟨rfl, ts, by rw [← hg]; simp [kindC, runC, c], rfl⟩
    rw [c] at E
    have H := Hid.intro h
    clear hg c h
    have E2 : (((nextT en ts).kind : Int) == (n : Int)) = false := by rw [beq_eq_false_iff_ne] at *; omega
    clear E
    generalize nextT en ts = t at *
    go_enter Tryz.func127, Tryz.ntmps127
    go_wp2_with (first | (go_at_call 74; refine (HP.out _ (ba (Below.refl _ _))).mono ?_; rintro e w1 ⟨rfl, hb1⟩) | (go_at_call 129; refine (stop_any Z R en ts _ (H.out.to (bl2 (ba (Below.refl _ _)) hb1))).mono ?_; rintro e w2 ⟨rfl, hb2⟩))
    exact ⟨rfl, But.of (bl2 (bl2 (ba (Below.refl _ _)) hb1) hb2), Or.inr ⟨11, _, rfl, G.out⟩⟩
  · cases ts with
    | nil => cases c
    | cons t r =>
      have G : Hid (runC en Rr (k t) r = O) := by show _ = _; rw [← hg]; simp [kindC, runC, c]
      rw [c] at E
      have H := Hid.intro h
      have hv : t.val ≤ 999999999 := h.fine t (List.mem_cons_self ..)
      have lr : Z ≤ w.heap.size ∧ R < Z := ⟨h.size, h.rz⟩
      clear hg c h
      have E2 : (((nextT en (t :: r)).kind : Int) == (n : Int)) = true := by rw [beq_iff_eq] at *; omega
      clear E
      generalize nextT en (t :: r) = u at *
      go_enter Tryz.func127, Tryz.ntmps127
      go_wp2_with (first | (go_at_call 74; refine (HP.out _ (ba (Below.refl _ _))).mono ?_; rintro e w1 ⟨rfl, hb1⟩) | (go_at_call 102; refine (take_any Z R en t r _ (H.out.to (bl2 (ba (Below.refl _ _)) hb1))).mono ?_; rintro e w2 ⟨rfl, h2, hb2⟩; unfold tkV; obtain ⟨⟨z0, z1, z2, z3⟩, zf, zl⟩ := keep4 ((But.of (R := R) hb1).trans hb2) w.heap.size (by omega) (.int .i64 0) (.string ⟨#[]⟩) (.int .i64 0) (.int .i64 0) (by simp) (by go_simp) (by go_simp) (by go_simp) (by go_simp) (by go_simp); have zf0 := zf 0; have zf1 := zf 1; have zf2 := zf 2; have zf3 := zf 3))
      refine bodyPost_ret (v := .agg #[.int .i64 (t).kind, .string ⟨(t).text.toArray⟩, .int .i64 (t).val, .int .i64 (t).pos]) (by simp [results, Tryz.results127, go_sem, World.cell?_setCell_other, z0, z1, z2, z3]) rfl ⟨?_, Or.inl ⟨t, r, rfl, ?_, hv, G.out⟩⟩
      · exact ((((((But.of (ba (Below.refl _ _))).below hb1).trans hb2).setCell (Or.inl (Nat.le_refl _)) _).setCell (Or.inl (Nat.le_refl _)) _).setCell (Or.inl (Nat.le_refl _)) _).setCell (Or.inl (Nat.le_refl _)) _
      · exact h2.below (((((Below.refl _ _).setCell lr.1 _).setCell lr.1 _).setCell lr.1 _).setCell lr.1 _)

set_option maxHeartbeats 4000000 in
/-- A name that has to stand there. -/
theorem name_step {k : List UInt8 → Cmd} {ts : List Tok} (w : World) (h : St Z R en w ts) (hg : runC en Rr (nameC' k) ts = O) :
    Calls Tryz.prog 103 #[.pointer (some ⟨R, 0, none⟩)] w fun e w' => But R w w' ∧ ((∃ (t : Tok) (r : List Tok), e = .returned (.string ⟨t.text.toArray⟩) ∧ St Z R en w' r ∧ runC en Rr (k t.text) r = O) ∨ (∃ c p : Nat, e = .panicked [{ v := .iface 73 (.agg #[.int .i64 c, .int .i64 p]), recovered := false }] ∧ Gone en O c p)) := by
  have HK : Hid (Calls Tryz.prog 127 #[.pointer (some ⟨R, 0, none⟩), .int .i64 1] w _) := Hid.intro (kind_step 1 (by omega) w h hg)
  have F1 := fld1
  clear h hg
  go_enter Tryz.func103, Tryz.ntmps103
  go_wp2_with fail
  refine HK.out.mono ?_
  rintro e w1 ⟨hb1, ⟨t, r, rfl, h1, -, hg1⟩ | ⟨c, p, rfl, hG⟩⟩
  · have HB := Hid.intro hb1
    have H1 := Hid.intro h1
    have G1 := Hid.intro hg1
    clear hb1 h1 hg1
    go_wp2
    go_ret
    exact ⟨HB.out, Or.inl ⟨t, r, rfl, H1.out, G1.out⟩⟩
  · exact ⟨rfl, hb1, Or.inr ⟨c, p, rfl, hG⟩⟩

set_option maxHeartbeats 4000000 in
/-- A number that has to stand there. -/
theorem number_step {k : Tok → Cmd} {ts : List Tok} (w : World) (h : St Z R en w ts) (hg : runC en Rr (kindC 3 k) ts = O) :
    Calls Tryz.prog 105 #[.pointer (some ⟨R, 0, none⟩)] w fun e w' => But R w w' ∧ ((∃ t r, e = .returned (.agg #[.int .i64 (t).kind, .string ⟨(t).text.toArray⟩, .int .i64 (t).val, .int .i64 (t).pos]) ∧ St Z R en w' r ∧ t.val ≤ 999999999 ∧ runC en Rr (k t) r = O) ∨ (∃ c p : Nat, e = .panicked [{ v := .iface 73 (.agg #[.int .i64 c, .int .i64 p]), recovered := false }] ∧ Gone en O c p)) := by
  have HK : Hid (∀ W, Below w.heap.size w W → Calls Tryz.prog 127 #[.pointer (some ⟨R, 0, none⟩), .int .i64 3] W _) := Hid.intro (fun W (hW : Below w.heap.size w W) => kind_step 3 (by omega) W (h.to hW) hg)
  have lr : Z ≤ w.heap.size ∧ R < Z := ⟨h.size, h.rz⟩
  clear h hg
  go_enter Tryz.func105, Tryz.ntmps105
  go_wp2_with fail
  refine (HK.out _ (ba (Below.refl _ _))).mono ?_
  rintro e w1 ⟨hb1, ⟨t, r, rfl, h1, hv, hg1⟩ | ⟨c, p, rfl, hG⟩⟩
  · obtain ⟨⟨z0, z1, z2, z3⟩, zf, zl⟩ := keep4 hb1 w.heap.size (by omega) (.int .i64 0) (.string ⟨#[]⟩) (.int .i64 0) (.int .i64 0) (by simp) (by go_simp) (by go_simp) (by go_simp) (by go_simp) (by go_simp)
    have zf0 := zf 0; have zf1 := zf 1; have zf2 := zf 2; have zf3 := zf 3
    have HB := Hid.intro hb1
    have H1 := Hid.intro h1
    have G1 := Hid.intro hg1
    clear hb1 h1 hg1
    go_wp2
    refine bodyPost_ret (v := .agg #[.int .i64 (t).kind, .string ⟨(t).text.toArray⟩, .int .i64 (t).val, .int .i64 (t).pos]) (by simp [results, Tryz.results105, go_sem, World.cell?_setCell_other, z0, z1, z2, z3]) rfl ⟨?_, Or.inl ⟨t, r, rfl, ?_, hv, G1.out⟩⟩
    · exact ((((((But.of (ba (Below.refl _ _))).trans HB.out).setCell (Or.inl (Nat.le_refl _)) _).setCell (Or.inl (Nat.le_refl _)) _).setCell (Or.inl (Nat.le_refl _)) _).setCell (Or.inl (Nat.le_refl _)) _)
    · exact H1.out.below (((((Below.refl _ _).setCell lr.1 _).setCell lr.1 _).setCell lr.1 _).setCell lr.1 _)
  · exact ⟨rfl, (But.of (ba (Below.refl _ _))).trans hb1, Or.inr ⟨c, p, rfl, hG⟩⟩
end
end Go.Proofs.YtkljakeccfnakaaGreatDoor

namespace Go.Proofs.YtkljakeccfnakaaGreatDoor
open Go.RowKit

def comp (v : Value) (c : Nat) : Value := match v with | .agg a => a.getD c undef | _ => undef
def exV (k : Nat) (t o : List UInt8) (n : Int) (p : Nat) (s : Value) : Value := .agg #[.int .i64 (k : Int), .string ⟨t.toArray⟩, .string ⟨o.toArray⟩, .int .i64 n, .int .i64 (p : Int), s]
/-- The value v is the expression x in the world w; its memory lies from lo on. -/
inductive ExV (lo : Nat) (w : World) : Value → Ex → Prop
  | leaf (k : Nat) (t o : List UInt8) (n : Int) (p : Nat) : ExV lo w (exV k t o n p (.slice none 0 0)) (.mk k t o n p [])
  | node (k : Nat) (t o : List UInt8) (n : Int) (p b off cap : Nat) (kids : List Ex) (vs : Nat → Value) (hlo : lo ≤ b) (hb : b < w.heap.size) (hcap : kids.length ≤ cap ∧ kids.length ≤ 1000000)
      (hc : ∀ j, j < kids.length → ∀ c, c < 6 → w.cell? ⟨b, off + j * 6 + c, none⟩ = some (comp (vs j) c)) (hk : ∀ j x, kids[j]? = some x → ExV lo w (vs j) x) :
      ExV lo w (exV k t o n p (.slice (some ⟨b, off, none⟩) kids.length cap)) (.mk k t o n p kids)
/-- From lo on all that was there is as it was. -/
structure Kept (lo : Nat) (w w' : World) : Prop where
  size : w.heap.size ≤ w'.heap.size
  block : ∀ b, lo ≤ b → b < w.heap.size → w'.heap[b]? = w.heap[b]?
theorem Kept.refl (lo : Nat) (w : World) : Kept lo w w := ⟨Nat.le_refl _, fun _ _ _ => rfl⟩
theorem Kept.drew {lo : Nat} {w w' : World} (h : Kept lo w w') : Kept lo w w'.drew := ⟨h.size, h.block⟩
theorem Kept.alloc {lo : Nat} {w w' : World} (h : Kept lo w w') (o : Obj) : Kept lo w (w'.alloc o) :=
  ⟨Nat.le_trans h.size (by simp), fun b h1 h2 => (Below.heap_alloc _ _ _ (Nat.lt_of_lt_of_le h2 h.size)).trans (h.block b h1 h2)⟩
theorem Kept.setCell {lo : Nat} {w w' : World} (h : Kept lo w w') {p : Addr} (hp : p.block < lo ∨ w.heap.size ≤ p.block) (u : Value) : Kept lo w (w'.setCell p u) :=
  ⟨Nat.le_trans h.size (by simp), fun b h1 h2 => (Below.heap_setCell _ _ _ _ (by omega)).trans (h.block b h1 h2)⟩
theorem Kept.below {lo : Nat} {w w1 w2 : World} (h : Kept lo w w1) (hb : Below w1.heap.size w1 w2) : Kept lo w w2 :=
  ⟨Nat.le_trans h.size hb.size, fun b h1 h2 => (hb.block b (Nat.lt_of_lt_of_le h2 h.size)).trans (h.block b h1 h2)⟩
theorem Kept.but {lo R : Nat} {w w1 w2 : World} (h : Kept lo w w1) (hb : But R w1 w2) (hR : R < lo) : Kept lo w w2 :=
  ⟨Nat.le_trans h.size hb.size, fun b h1 h2 => (hb.block b (Nat.lt_of_lt_of_le h2 h.size) (by omega)).trans (h.block b h1 h2)⟩
theorem ExV.keep {lo : Nat} {w w' : World} {v : Value} {x : Ex} (h : ExV lo w v x) (hk : Kept lo w w') : ExV lo w' v x := by
  induction h with
  | leaf k t o n p => exact .leaf k t o n p
  | node k t o n p b off cap kids vs hlo hlt hcap hc _ ih => exact .node k t o n p b off cap kids vs hlo (Nat.lt_of_lt_of_le hlt hk.size) hcap (fun j hj c h6 => (World.cell?_of_block (w := w) (hk.block b hlo hlt)).trans (hc j hj c h6)) ih
theorem ExV.low {lo lo' : Nat} {w : World} {v : Value} {x : Ex} (h : ExV lo w v x) (hl : lo' ≤ lo) : ExV lo' w v x := by
  induction h with
  | leaf k t o n p => exact .leaf k t o n p
  | node k t o n p b off cap kids vs hlo hlt hcap hc _ ih => exact .node k t o n p b off cap kids vs (Nat.le_trans hl hlo) hlt hcap hc ih
theorem ExV.form {lo : Nat} {w : World} {v : Value} {x : Ex} (h : ExV lo w v x) : ∃ a cap, v = exV x.kind x.text x.other x.n x.pl (.slice a x.kids.length cap) := by
  cases h with
  | leaf k t o n p => exact ⟨none, 0, rfl⟩
  | node k t o n p b off cap kids vs => exact ⟨_, cap, rfl⟩
theorem ExV.form2 {lo : Nat} {w : World} {v : Value} {x : Ex} (h : ExV lo w v x) : ∃ (nn : Int) (tx ox : ByteArray) (a : Option Addr) (ln cp : Nat), v = .agg #[.int .i64 (x.kind : Int), .string tx, .string ox, .int .i64 nn, .int .i64 (x.pl : Int), .slice a ln cp] ∧ tx = ⟨x.text.toArray⟩ := by
  obtain ⟨a, cap, rfl⟩ := h.form
  exact ⟨_, _, _, a, _, cap, rfl, rfl⟩
theorem ExV.thru {lo R : Nat} {w w' : World} {v : Value} {x : Ex} (hb : But R w w') (hR : R < lo) (h : ExV lo w v x) : ExV lo w' v x := h.keep ((Kept.refl lo w).but hb hR)
/-- The six cells of a block that was there. -/
theorem keep6 {R : Nat} {W w1 : World} (hb : But R W w1) (b : Nat) (hne : b ≠ R) (x0 x1 x2 x3 x4 x5 : Value) (h : b < W.heap.size) (h0 : W.cell? ⟨b, 0, none⟩ = some x0) (h1 : W.cell? ⟨b, 1, none⟩ = some x1) (h2 : W.cell? ⟨b, 2, none⟩ = some x2) (h3 : W.cell? ⟨b, 3, none⟩ = some x3) (h4 : W.cell? ⟨b, 4, none⟩ = some x4) (h5 : W.cell? ⟨b, 5, none⟩ = some x5) (hf : ∀ o, W.frozen? ⟨b, o, none⟩ = false) :
    (w1.cell? ⟨b, 0, none⟩ = some x0 ∧ w1.cell? ⟨b, 1, none⟩ = some x1 ∧ w1.cell? ⟨b, 2, none⟩ = some x2 ∧ w1.cell? ⟨b, 3, none⟩ = some x3 ∧ w1.cell? ⟨b, 4, none⟩ = some x4 ∧ w1.cell? ⟨b, 5, none⟩ = some x5) ∧ (∀ o, w1.frozen? ⟨b, o, none⟩ = false) ∧ b < w1.heap.size := by
  have e := hb.block b h hne
  refine ⟨⟨(cell_of_block e).trans h0, (cell_of_block e).trans h1, (cell_of_block e).trans h2, (cell_of_block e).trans h3, (cell_of_block e).trans h4, (cell_of_block e).trans h5⟩, fun o => ?_, Nat.lt_of_lt_of_le h hb.size⟩
  have := hf o
  simp only [World.frozen?] at this ⊢
  rw [e]; exact this
theorem six {q : Nat → Prop} (h0 : q 0) (h1 : q 1) (h2 : q 2) (h3 : q 3) (h4 : q 4) (h5 : q 5) : ∀ c, c < 6 → q c := fun c hc => by
  match c, hc with
  | 0, _ => exact h0
  | 1, _ => exact h1
  | 2, _ => exact h2
  | 3, _ => exact h3
  | 4, _ => exact h4
  | 5, _ => exact h5
/-- An expression with one kid. -/
theorem ex_one {lo : Nat} {w : World} {k p b : Nat} {t o : List UInt8} {n : Int} {u1 : Value} {x : Ex} (hlo : lo ≤ b) (hb : b < w.heap.size) (c0 : ∀ c, c < 6 → w.cell? ⟨b, c, none⟩ = some (comp u1 c)) (h1 : ExV lo w u1 x) :
    ExV lo w (exV k t o n p (.slice (some ⟨b, 0, none⟩) 1 1)) (.mk k t o n p [x]) := by
  refine ExV.node k t o n p b 0 1 [x] (fun _ => u1) hlo hb (by simp) (fun j hj c hc => ?_) (fun j y hy => ?_)
  · match j, hj with
    | 0, _ => rw [show 0 + 0 * 6 + c = c by omega]; exact c0 c hc
  · match j, hy with
    | 0, hy => simp only [List.getElem?_cons_zero, Option.some.injEq] at hy; subst hy; exact h1
/-- An expression with two kids that lie side by side. -/
theorem ex_two {lo : Nat} {w : World} {k p b : Nat} {t o : List UInt8} {n : Int} {u1 u2 : Value} {x g : Ex} (hlo : lo ≤ b) (hb : b < w.heap.size) (c0 : ∀ c, c < 6 → w.cell? ⟨b, c, none⟩ = some (comp u1 c)) (c1 : ∀ c, c < 6 → w.cell? ⟨b, 6 + c, none⟩ = some (comp u2 c)) (h1 : ExV lo w u1 x) (h2 : ExV lo w u2 g) :
    ExV lo w (exV k t o n p (.slice (some ⟨b, 0, none⟩) 2 2)) (.mk k t o n p [x, g]) := by
  refine ExV.node k t o n p b 0 2 [x, g] (fun j => if j = 0 then u1 else u2) hlo hb (by simp) (fun j hj c hc => ?_) (fun j y hy => ?_)
  · match j, hj with
    | 0, _ => rw [show 0 + 0 * 6 + c = c by omega]; exact c0 c hc
    | 1, _ => rw [show 0 + 1 * 6 + c = 6 + c by omega]; exact c1 c hc
  · match j, hy with
    | 0, hy => simp only [List.getElem?_cons_zero, Option.some.injEq] at hy; subst hy; exact h1
    | 1, hy => simp only [List.getElem?_cons_succ, List.getElem?_cons_zero, Option.some.injEq] at hy; subst hy; exact h2
/-- An expression with three kids that lie side by side. -/
theorem ex_three {lo : Nat} {w : World} {k p b : Nat} {t o : List UInt8} {n : Int} {u1 u2 u3 : Value} {x g z : Ex} (hlo : lo ≤ b) (hb : b < w.heap.size) (c0 : ∀ c, c < 6 → w.cell? ⟨b, c, none⟩ = some (comp u1 c)) (c1 : ∀ c, c < 6 → w.cell? ⟨b, 6 + c, none⟩ = some (comp u2 c)) (c2 : ∀ c, c < 6 → w.cell? ⟨b, 12 + c, none⟩ = some (comp u3 c)) (h1 : ExV lo w u1 x) (h2 : ExV lo w u2 g) (h3 : ExV lo w u3 z) :
    ExV lo w (exV k t o n p (.slice (some ⟨b, 0, none⟩) 3 3)) (.mk k t o n p [x, g, z]) := by
  refine ExV.node k t o n p b 0 3 [x, g, z] (fun j => if j = 0 then u1 else if j = 1 then u2 else u3) hlo hb (by simp) (fun j hj c hc => ?_) (fun j y hy => ?_)
  · match j, hj with
    | 0, _ => rw [show 0 + 0 * 6 + c = c by omega]; exact c0 c hc
    | 1, _ => rw [show 0 + 1 * 6 + c = 6 + c by omega]; exact c1 c hc
    | 2, _ => rw [show 0 + 2 * 6 + c = 12 + c by omega]; exact c2 c hc
  · match j, hy with
    | 0, hy => simp only [List.getElem?_cons_zero, Option.some.injEq] at hy; subst hy; exact h1
    | 1, hy => simp only [List.getElem?_cons_succ, List.getElem?_cons_zero, Option.some.injEq] at hy; subst hy; exact h2
    | 2, hy => simp only [List.getElem?_cons_succ, List.getElem?_cons_zero, Option.some.injEq] at hy; subst hy; exact h3

theorem run_here {en : Nat} {Rr : Sym → List Tok → Out} {k : Nat → Cmd} {ts : List Tok} : runC en Rr (.here k) ts = runC en Rr (k (place en ts)) ts := rfl
/-- How a function that reads an expression ends. -/
def Ended (Z R en : Nat) (w : World) (O : Out) (G : Ex → List Tok → Prop) (e : Ending) (w' : World) : Prop :=
  But R w w' ∧ ((∃ v x r, e = .returned v ∧ ExV w.heap.size w' v x ∧ St Z R en w' r ∧ G x r) ∨ (∃ c p : Nat, e = .panicked [{ v := .iface 73 (.agg #[.int .i64 c, .int .i64 p]), recovered := false }] ∧ Gone en O c p))
/-- The same, of a function that is handed an expression whose memory lies from lo on. -/
def EndedL (lo Z R en : Nat) (w : World) (O : Out) (e : Ending) (w' : World) : Prop :=
  But R w w' ∧ ((∃ v x r, e = .returned v ∧ ExV lo w' v x ∧ St Z R en w' r ∧ O = .ok x r) ∨ (∃ c p : Nat, e = .panicked [{ v := .iface 73 (.agg #[.int .i64 c, .int .i64 p]), recovered := false }] ∧ Gone en O c p))
/-- A function that is handed numbers or words besides. -/
def ReadsA (Z R en f : Nat) (F : Nat) (args : Array Value) (c : Cmd) : Prop :=
  ∀ (ts : List Tok) (O : Out) (w : World), St Z R en w ts → O ≠ .out → runC en (P en f) c ts = O →
    Calls Tryz.prog F (#[.pointer (some ⟨R, 0, none⟩)] ++ args) w (Ended Z R en w O fun x r => O = .ok x r)
/-- A function that is handed an expression (and values ahead of it). -/
def ReadsX (Z R en f : Nat) (F : Nat) (args : Array Value) (c : Ex → Cmd) : Prop :=
  ∀ (v : Value) (x : Ex) (lo : Nat) (ts : List Tok) (O : Out) (w : World), St Z R en w ts → Z ≤ lo → lo ≤ w.heap.size → ExV lo w v x → O ≠ .out → runC en (P en f) (c x) ts = O →
    Calls Tryz.prog F (#[.pointer (some ⟨R, 0, none⟩)] ++ args ++ #[v]) w (EndedL lo Z R en w O)
/-- The contract of a function that reads the part s. -/
def Reads (Z R en f : Nat) (F : Nat) (s : Sym) : Prop :=
  ∀ (k : Ex → Cmd) (ts : List Tok) (O : Out) (w : World), St Z R en w ts → O ≠ .out → runC en (P en f) (.call s k) ts = O →
    Calls Tryz.prog F #[.pointer (some ⟨R, 0, none⟩)] w (Ended Z R en w O fun x r => runC en (P en f) (k x) r = O)
/-- The same of a function that reads what c tells. -/
def ReadsC (Z R en f : Nat) (F : Nat) (c : Cmd) : Prop :=
  ∀ (ts : List Tok) (O : Out) (w : World), St Z R en w ts → O ≠ .out → runC en (P en f) c ts = O →
    Calls Tryz.prog F #[.pointer (some ⟨R, 0, none⟩)] w (Ended Z R en w O fun x r => O = .ok x r)
/-- Whoever keeps a part's body keeps the part. -/
theorem Reads.of {Z R en f F : Nat} {s : Sym} (h : ReadsC Z R en f F (body s)) : Reads Z R en (f + 1) F s := by
  intro k ts O w hw hO hg
  simp only [runC] at hg
  have e : P en (f + 1) s ts = runC en (P en f) (body s) ts := rfl
  have hne : P en (f + 1) s ts ≠ .out := by
    intro q; rw [q] at hg; exact hO hg.symm
  rw [e] at hne
  refine (h ts _ w hw hne rfl).mono ?_
  rintro e' w' ⟨hb, ⟨v, x, r, he, hx, hs, hr⟩ | ⟨c, p, he, hG⟩⟩
  · refine ⟨hb, Or.inl ⟨v, x, r, he, hx, hs, ?_⟩⟩
    rw [e, hr] at hg; exact hg
  · refine ⟨hb, Or.inr ⟨c, p, he, ?_⟩⟩
    rcases hG with ⟨hc, r, hr, hp⟩ | ⟨hc, hr⟩
    · rw [e, hr] at hg; exact Or.inl ⟨hc, r, hg.symm, hp⟩
    · rw [e, hr] at hg; exact Or.inr ⟨hc, hg.symm⟩
end Go.Proofs.YtkljakeccfnakaaGreatDoor
