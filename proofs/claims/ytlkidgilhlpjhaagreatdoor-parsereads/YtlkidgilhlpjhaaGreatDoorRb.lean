/-
  The walks of the document's own small functions of layer 5: what stands at a place; a fault; an expression made of its parts.
  Variables in memory, as one equation of their block; contracts of the document's own reader.
-/
import Derived.Test.YtlkidgilhlpjhaaGreatDoorUu
import Derived.Test.YtlkidgilhlpjhaaGreatDoorKB
import Derived.BigRegion
import Derived.RegionTactic
namespace Go.Proofs.YtlkidgilhlpjhaaGreatDoor
open Go.RowKit

/-- What stands at a place, as the document's own functions tell it. -/
def tAt (ts : List Tok) (en i : Nat) : Nat := match ts[i]? with | some t => t.pos | none => en
def tKind (ts : List Tok) (i : Nat) : Nat := match ts[i]? with | some t => t.kind | none => 0
def tIs (ts : List Tok) (i : Nat) (s : List UInt8) : Bool := match ts[i]? with | some t => (t.kind == 2 || t.kind == 4) && t.text == s | none => false
theorem tok_drop {ts : List Tok} {i : Nat} : ts[i]? = (ts.drop i).head? := by rw [List.head?_drop]
theorem tAt_eq (ts : List Tok) (en i : Nat) : tAt ts en i = place en (ts.drop i) := by
 unfold tAt; rw [tok_drop]; cases ts.drop i <;> rfl
theorem tKind_eq (ts : List Tok) (i k : Nat) (hk : k ≠ 0) : (tKind ts i == k) = hd (isK k) (ts.drop i) := by
 unfold tKind; rw [tok_drop]
 cases ts.drop i with
 | nil => show (0 == k) = false; rw [beq_eq_false_iff_ne]; omega
 | cons => rfl
/-- Signs and words of the language are of their kinds. -/
def Fits (s : List UInt8) (ts : List Tok) : Prop := ∀ t ∈ ts, t.text = s -> t.kind = 2 \/ t.kind = 4
theorem tIs_eq {ts : List Tok} {i : Nat} {s : List UInt8} (h : Fits s ts) : tIs ts i s = hd (isT s) (ts.drop i) := by
 unfold tIs; rw [tok_drop]
 cases e : ts.drop i with
 | nil => rfl
 | cons t r =>
  have hm : t ∈ ts := List.mem_of_mem_drop (i := i) (by rw [e]; exact List.mem_cons_self)
  show ((t.kind == 2 || t.kind == 4) && t.text == s) = (t.text == s)
  cases c : (t.text == s) with
  | false => simp
  | true => rcases h t hm (by simpa using c) with h | h <;> rw [h] <;> rfl
/-- The value of a text of words. -/
def txV (v : Value) (en : Nat) : Value := .agg #[v, .int .i64 (en : Int)]
/-- One word, in memory. -/
theorem tok_at {w : World} {v : Value} {ts : List Tok} (h : TokSl w v ts) {i : Nat} {t : Tok} (ht : ts[i]? = some t) : ∃ b off cap, v = .slice (some ⟨b, off, none⟩) ts.length cap /\ ts.length <= cap /\ b < w.heap.size ∧
  w.cell? ⟨b, off + i * 4, none⟩ = some (.int .i64 t.kind) /\ w.cell? ⟨b, off + i * 4 + 1, none⟩ = some (.string ⟨t.text.toArray⟩) /\ w.cell? ⟨b, off + i * 4 + 2, none⟩ = some (.int .i64 t.val) /\ w.cell? ⟨b, off + i * 4 + 3, none⟩ = some (.int .i64 t.pos) := by
 obtain ⟨_, a, cap, rfl, hc, _, h⟩ := h
 rcases h with h | ⟨b, off, rfl, hb, h⟩
 ·subst h; simp at ht
 ·obtain ⟨h0, h1, h2, h3⟩ := h i t ht; exact ⟨b, off, cap, rfl, hc, hb, h0, h1, h2, h3⟩
theorem sl_len {w : World} {v : Value} {ts : List Tok} (h : TokSl w v ts) : ∃ a cap, v = .slice a ts.length cap /\ ts.length <= 1500 := by
 obtain ⟨h1, a, cap, rfl, _⟩ := h; exact ⟨a, cap, rfl, h1⟩
theorem str_eqb (a b : List UInt8) (s : ByteArray) (h : s.data.toList = b) : ((⟨a.toArray⟩ : ByteArray).toList == s.toList) = (a == b) := by
 rw [Lib.toList_data, Lib.toList_data, h]

set_option maxHeartbeats 2000000 in
theorem at_any (v : Value) (ts : List Tok) (en i : Nat) (w : World) (hv : TokSl w v ts) :
  Calls Tryz.prog 15 #[txV v en, .int .i64 (i : Int)] w fun e w' => e = .returned (.int .i64 (tAt ts en i : Nat)) /\ Below w.heap.size w w' := by
 unfold txV
 by_cases c : i < ts.length
 ·obtain ⟨t, ht⟩ : ∃ t, ts[i]? = some t := ⟨_, List.getElem?_eq_getElem c⟩; have E : Hid (tAt ts en i = t.pos) := by show _ = _; unfold tAt; rw [ht]
  obtain ⟨b, off, cap, rfl, hcap, hb, c0, c1, c2, c3⟩ := tok_at hv ht; have c' : (i : Int) < (ts.length : Int) := by omega
  clear ht hv
  generalize ts.length = n at *
  go_enter Tryz.func15, Tryz.ntmps15
  go_wp2
  go_ret
  exact ⟨ret_int (by rw [E.out]), (Below.refl _ _).alloc (Nat.le_refl _) _⟩
 ·have E : Hid (tAt ts en i = en) := by show _ = _; unfold tAt; rw [List.getElem?_eq_none (by omega)]
  obtain ⟨a, cap, rfl, _⟩ := sl_len hv; have c' : ¬ (i : Int) < (ts.length : Int) := by omega
  clear hv
  generalize ts.length = n at *
  go_enter Tryz.func15, Tryz.ntmps15
  go_wp2
  go_ret
  exact ⟨ret_int (by rw [E.out]), (Below.refl _ _).alloc (Nat.le_refl _) _⟩

set_option maxHeartbeats 2000000 in
theorem kind_any (v : Value) (ts : List Tok) (en i : Nat) (w : World) (hv : TokSl w v ts) :
  Calls Tryz.prog 33 #[txV v en, .int .i64 (i : Int)] w fun e w' => e = .returned (.int .i64 (tKind ts i : Nat)) /\ Below w.heap.size w w' := by
 unfold txV
 by_cases c : i < ts.length
 ·obtain ⟨t, ht⟩ : ∃ t, ts[i]? = some t := ⟨_, List.getElem?_eq_getElem c⟩; have E : Hid (tKind ts i = t.kind) := by show _ = _; unfold tKind; rw [ht]
  obtain ⟨b, off, cap, rfl, hcap, hb, c0, c1, c2, c3⟩ := tok_at hv ht; have c' : (i : Int) < (ts.length : Int) := by omega
  clear ht hv
  generalize ts.length = n at *
  go_enter Tryz.func33, Tryz.ntmps33
  go_wp2
  go_ret
  exact ⟨ret_int (by rw [E.out]), (Below.refl _ _).alloc (Nat.le_refl _) _⟩
 ·have E : Hid (tKind ts i = 0) := by show _ = _; unfold tKind; rw [List.getElem?_eq_none (by omega)]
  obtain ⟨a, cap, rfl, _⟩ := sl_len hv; have c' : ¬ (i : Int) < (ts.length : Int) := by omega
  clear hv
  generalize ts.length = n at *
  go_enter Tryz.func33, Tryz.ntmps33
  go_wp2
  go_ret
  exact ⟨ret_int (by rw [E.out]; rfl), (Below.refl _ _).alloc (Nat.le_refl _) _⟩

set_option maxHeartbeats 4000000 in
theorem is_any (v : Value) (ts : List Tok) (en i : Nat) (s : ByteArray) (w : World) (hv : TokSl w v ts) :
  Calls Tryz.prog 14 #[txV v en, .int .i64 (i : Int), .string s] w fun e w' => e = .returned (.bool (tIs ts i s.data.toList)) /\ Below w.heap.size w w' := by
 unfold txV
 by_cases c : i < ts.length
 ·obtain ⟨t, ht⟩ : ∃ t, ts[i]? = some t := ⟨_, List.getElem?_eq_getElem c⟩; have E : Hid (tIs ts i s.data.toList = ((t.kind == 2 || t.kind == 4) && t.text == s.data.toList)) := by show _ = _; unfold tIs; rw [ht]
  obtain ⟨b, off, cap, rfl, hcap, hb, c0, c1, c2, c3⟩ := tok_at hv ht; have c' : (i : Int) < (ts.length : Int) := by omega
  clear ht hv
  generalize ts.length = n at *
  have k2 : ((t.kind : Int) == 2) = (t.kind == 2) := by rw [Bool.eq_iff_iff, beq_iff_eq, beq_iff_eq]; omega
  have k4 : ((t.kind : Int) == 4) = (t.kind == 4) := by rw [Bool.eq_iff_iff, beq_iff_eq, beq_iff_eq]; omega
  cases q2 : (t.kind == 2)
  ·cases q4 : (t.kind == 4)
   ·rw [q2] at k2; rw [q4] at k4
    go_enter Tryz.func14, Tryz.ntmps14
    go_wp2
    go_ret
    exact ⟨ret_bool (by rw [E.out, q2, q4]; rfl), (Below.refl _ _).alloc (Nat.le_refl _) _⟩
   ·rw [q2] at k2; rw [q4] at k4
    go_enter Tryz.func14, Tryz.ntmps14
    go_wp2
    go_ret
    exact ⟨ret_bool (by rw [E.out, q2, q4, ← str_eqb t.text _ s rfl]; simp), (Below.refl _ _).alloc (Nat.le_refl _) _⟩
  ·rw [q2] at k2
   go_enter Tryz.func14, Tryz.ntmps14
   go_wp2
   go_ret
   exact ⟨ret_bool (by rw [E.out, q2, ← str_eqb t.text _ s rfl]; simp), (Below.refl _ _).alloc (Nat.le_refl _) _⟩
 ·have E : Hid (tIs ts i s.data.toList = false) := by show _ = _; unfold tIs; rw [List.getElem?_eq_none (by omega)]
  obtain ⟨a, cap, rfl, _⟩ := sl_len hv; have c' : ¬ (i : Int) < (ts.length : Int) := by omega
  clear hv
  generalize ts.length = n at *
  go_enter Tryz.func14, Tryz.ntmps14
  go_wp2
  go_ret
  exact ⟨ret_bool (by rw [E.out]), (Below.refl _ _).alloc (Nat.le_refl _) _⟩

def zeroE : Value := .agg #[.int .i64 0, .string ⟨#[]⟩, .string ⟨#[]⟩, .int .i64 0, .int .i64 0, .slice none 0 0]
set_option maxHeartbeats 400000 in
theorem fail_any (i : Nat) (hi : i <= 140737488351232) (w : World) :
  Calls Tryz.prog 45 #[.int .i64 (i : Int)] w fun e w' => e = .returned (.tuple #[zeroE, .int .i64 (-1 - (i : Int))]) /\ Below w.heap.size w w' := by
 go_enter Tryz.func45, Tryz.ntmps45
 go_wp2; refine bodyPost_ret (v := .tuple #[zeroE, .int .i64 (-1 - (i : Int))]) (by simp [results, Tryz.results45, go_sem, zeroE]) rfl ⟨rfl, ?_⟩
 exact (Below.refl _ _).alloc (Nat.le_refl _) _

set_option maxHeartbeats 400000 in
theorem of_any (k p : Nat) (s : ByteArray) (a : Option Addr) (n cap : Nat) (w : World) :
  Calls Tryz.prog 35 #[.int .i64 (k : Int), .int .i64 (p : Int), .string s, .slice a n cap] w fun e w' => e = .returned (.agg #[.int .i64 (k : Int), .string s, .string ⟨#[]⟩, .int .i64 0, .int .i64 (p : Int), .slice a n cap]) /\ Below w.heap.size w w' := by
 go_enter Tryz.func35, Tryz.ntmps35
 go_wp2; refine bodyPost_ret (v := .agg #[.int .i64 (k : Int), .string s, .string ⟨#[]⟩, .int .i64 0, .int .i64 (p : Int), .slice a n cap]) (by simp [results, Tryz.results35, go_sem]) rfl ⟨rfl, ?_⟩
 exact (Below.refl _ _).alloc (Nat.le_refl _) _
end Go.Proofs.YtlkidgilhlpjhaaGreatDoor

namespace Go.Proofs.YtlkidgilhlpjhaaGreatDoor
open Go.RowKit

/-- The variable at the block b has these cells. -/
def Blk (w : World) (b : Nat) (vs : Array Value) (t : Nat) : Prop := w.heap[b]? = some (.cells vs t (0, 0))
section
variable {w w' : World} {b n t : Nat} {vs : Array Value}
theorem Blk.lt (h : Blk w b vs t) : b < w.heap.size := lt_of_block h
theorem Blk.cell (h : Blk w b vs t) (i : Nat) {v : Value} (hv : vs[i]? = some v) : w.cell? ⟨b, i, none⟩ = some v := by
 unfold Blk at h
 simp [World.cell?, h, hv]
theorem Blk.free (h : Blk w b vs t) (o : Nat) : w.frozen? ⟨b, o, none⟩ = false := by
 unfold Blk at h
 simp [World.frozen?, h]
theorem Blk.below (hb : Below n w w') (hn : b < n) (h : Blk w b vs t) : Blk w' b vs t := (hb.block b hn).trans h
theorem Blk.alloc (o : Obj) (h : Blk w b vs t) : Blk (w.alloc o) b vs t := (Below.heap_alloc _ _ _ h.lt).trans h
theorem Blk.drew (h : Blk w b vs t) : Blk w.drew b vs t := h
theorem Blk.other {p : Addr} {u : Value} (hp : b ≠ p.block) (h : Blk w b vs t) : Blk (w.setCell p u) b vs t := (Below.heap_setCell _ _ _ _ hp).trans h
theorem Blk.new (hn : b = w.heap.size) : Blk (w.alloc (.cells vs t (0, 0))) b vs t := by
 subst hn; exact heap_alloc_new _ _
theorem Blk.put {vs' : Array Value} {i : Nat} {u : Value} (h : Blk w b vs t) (hv : vs.setIfInBounds i u = vs') : Blk (w.setCell ⟨b, i, none⟩ u) b vs' t := by
 subst hv; unfold Blk at *; exact heap_setCell_same _ b i _ t _ h
theorem Blk.set1 {x0 y0 : Value} (h : Blk w b #[x0] t) : Blk (w.setCell ⟨b, 0, none⟩ y0) b #[y0] t := by
 unfold Blk at *; rw [heap_setCell_same _ b 0 _ t _ h]
 rfl
theorem Blk.set2 {x0 x1 y0 y1 : Value} (h : Blk w b #[x0, x1] t) : Blk ((w.setCell ⟨b, 0, none⟩ y0).setCell ⟨b, 1, none⟩ y1) b #[y0, y1] t := by
 unfold Blk at *; rw [heap_setCell_same _ b 1 _ t _ (heap_setCell_same _ b 0 _ t _ h)]
 rfl
theorem Blk.set4 {x0 x1 x2 x3 y0 y1 y2 y3 : Value} (h : Blk w b #[x0, x1, x2, x3] t) : Blk ((((w.setCell ⟨b, 0, none⟩ y0).setCell ⟨b, 1, none⟩ y1).setCell ⟨b, 2, none⟩ y2).setCell ⟨b, 3, none⟩ y3) b #[y0, y1, y2, y3] t := by
 unfold Blk at *; rw [heap_setCell_same _ b 3 _ t _ (heap_setCell_same _ b 2 _ t _ (heap_setCell_same _ b 1 _ t _ (heap_setCell_same _ b 0 _ t _ h)))]
 rfl
theorem Blk.set6 {x0 x1 x2 x3 x4 x5 y0 y1 y2 y3 y4 y5 : Value} (h : Blk w b #[x0, x1, x2, x3, x4, x5] t) : Blk ((((((w.setCell ⟨b, 0, none⟩ y0).setCell ⟨b, 1, none⟩ y1).setCell ⟨b, 2, none⟩ y2).setCell ⟨b, 3, none⟩ y3).setCell ⟨b, 4, none⟩ y4).setCell ⟨b, 5, none⟩ y5) b #[y0, y1, y2, y3, y4, y5] t := by
 unfold Blk at *; rw [heap_setCell_same _ b 5 _ t _ (heap_setCell_same _ b 4 _ t _ (heap_setCell_same _ b 3 _ t _ (heap_setCell_same _ b 2 _ t _ (heap_setCell_same _ b 1 _ t _ (heap_setCell_same _ b 0 _ t _ h)))))]
 rfl
end
/-- What is read, and what stands behind it, or where it fails. -/
def REnd (ts : List Tok) (w : World) (O : Out) (G : Ex -> List Tok -> Prop) (e : Ending) (w' : World) : Prop :=
 Below w.heap.size w w' /\ ((∃ u x j, e = .returned (.tuple #[u, .int .i64 ((j : Nat) : Int)]) /\ ExV w.heap.size w' u x /\ j <= ts.length /\ G x (ts.drop j)) ∨
  (∃ j : Nat, e = .returned (.tuple #[zeroE, .int .i64 (-1 - (j : Int))]) /\ j <= ts.length /\ O = .no (ts.drop j)))
/-- The contract of the document's own function that reads the part s. -/
def RReads (ts : List Tok) (en f F : Nat) (s : Sym) : Prop :=
 ∀ (v : Value) (z : Int) (i : Nat) (k : Ex -> Cmd) (O : Out) (w : World), TokSl w v ts -> z = (i : Int) -> i <= ts.length -> O ≠ .out -> runC en (P en f) (.call s k) (ts.drop i) = O →
  Calls Tryz.prog F #[txV v en, .int .i64 z] w (REnd ts w O fun x r => runC en (P en f) (k x) r = O)
/-- The same of a function that reads what c tells. -/
def RReadsC (ts : List Tok) (en f F : Nat) (c : Cmd) : Prop :=
 ∀ (v : Value) (z : Int) (i : Nat) (O : Out) (w : World), TokSl w v ts -> z = (i : Int) -> i <= ts.length -> O ≠ .out -> runC en (P en f) c (ts.drop i) = O →
  Calls Tryz.prog F #[txV v en, .int .i64 z] w (REnd ts w O fun x r => O = .ok x r)
theorem RReads.of {ts : List Tok} {en f F : Nat} {s : Sym} (h : RReadsC ts en f F (body s)) : RReads ts en (f + 1) F s := by
 intro v z i k O w hv hz hi hO hg
 simp only [runC] at hg
 have e : P en (f + 1) s (ts.drop i) = runC en (P en f) (body s) (ts.drop i) := rfl; have hne : P en (f + 1) s (ts.drop i) ≠ .out := by
  intro q; rw [q] at hg; exact hO hg.symm
 rw [e] at hne; refine (h v z i _ w hv hz hi hne rfl).mono ?_; rintro e' w' ⟨hb, ⟨u, x, j, he, hx, hj, hr⟩ | ⟨j, he, hj, hr⟩⟩
 ·refine ⟨hb, Or.inl ⟨u, x, j, he, hx, hj, ?_⟩⟩; rw [e, hr] at hg; exact hg
 ·refine ⟨hb, Or.inr ⟨j, he, hj, ?_⟩⟩; rw [e, hr] at hg; exact hg.symm
/-- The signs and words that are looked for. -/
def signL : List (List UInt8) := keyL ++ [[40], [41], [93], [59], [44], [33], [124], [61], [60], [43], [45], [42], [47], [58, 61], [60, 45], [45, 62], [46, 91]]
def AllFit (ts : List Tok) : Prop := ∀ s ∈ signL, Fits s ts
theorem ris {ts : List Tok} {en : Nat} (hf : AllFit ts) (v : Value) (s : ByteArray) (l : List UInt8) (hl : s.data.toList = l) (z : Int) (i : Nat) (hz : z = (i : Int)) (w : World) (hv : TokSl w v ts) (hs : l ∈ signL) :
  Calls Tryz.prog 14 #[txV v en, .int .i64 z, .string s] w fun e w' => e = .returned (.bool (hd (isT l) (ts.drop i))) /\ Below w.heap.size w w' := by
 subst hz; subst hl; have := is_any v ts en i s w hv; rw [tIs_eq (hf _ hs)] at this; exact this
theorem rat {ts : List Tok} {en : Nat} (v : Value) (z : Int) (i : Nat) (hz : z = (i : Int)) (w : World) (hv : TokSl w v ts) :
  Calls Tryz.prog 15 #[txV v en, .int .i64 z] w fun e w' => e = .returned (.int .i64 (place en (ts.drop i) : Nat)) /\ Below w.heap.size w w' := by
 subst hz; have := at_any v ts en i w hv; rw [tAt_eq] at this; exact this
/-- The kind of what stands there: it is k. -/
theorem rkind_y {ts : List Tok} {en : Nat} (v : Value) (z : Int) (i k : Nat) (hz : z = (i : Int)) (w : World) (hv : TokSl w v ts) (hk : k ≠ 0) (h : hd (isK k) (ts.drop i) = true) :
  Calls Tryz.prog 33 #[txV v en, .int .i64 z] w fun e w' => e = .returned (.int .i64 (k : Int)) /\ Below w.heap.size w w' := by
 subst hz; have := kind_any v ts en i w hv; rw [← tKind_eq ts i k hk, beq_iff_eq] at h; rw [h] at this; exact this
/-- The kind of what stands there: it is neither of two. -/
theorem rkind_n {ts : List Tok} {en : Nat} (v : Value) (z : Int) (i k k2 : Nat) (hz : z = (i : Int)) (w : World) (hv : TokSl w v ts) (hk : k ≠ 0) (hk2 : k2 ≠ 0) (h : hd (isK k) (ts.drop i) = false) (h2 : hd (isK k2) (ts.drop i) = false) :
  Calls Tryz.prog 33 #[txV v en, .int .i64 z] w fun e w' => (∃ n : Nat, e = .returned (.int .i64 (n : Int)) /\ ((n : Int) == (k : Int)) = false /\ ((n : Int) == (k2 : Int)) = false) /\ Below w.heap.size w w' := by
 subst hz; rw [← tKind_eq ts i k hk, beq_eq_false_iff_ne] at h; rw [← tKind_eq ts i k2 hk2, beq_eq_false_iff_ne] at h2; refine (kind_any v ts en i w hv).mono ?_; rintro e w' ⟨rfl, hb⟩; exact ⟨⟨_, rfl, by rw [beq_eq_false_iff_ne]; omega, by rw [beq_eq_false_iff_ne]; omega⟩, hb⟩
section
variable {en : Nat} {Rr : Sym -> List Tok -> Out} {ts : List Tok} {j : Nat} {O : Out}
theorem dr {p : Tok -> Bool} (h : hd p (ts.drop j) = true) : ∃ t, ts.drop j = t :: ts.drop (j + 1) /\ ts[j]? = some t /\ p t = true /\ j + 1 <= ts.length := by
 cases e : ts.drop j with
 | nil => rw [e] at h; cases h
 | cons t r =>
  have hl : (ts.drop j).length = r.length + 1 := by rw [e]; rfl
  rw [List.length_drop] at hl; have hr : ts.drop (j + 1) = r := by rw [← List.drop_drop, e]; rfl
  have ht : ts[j]? = some t := by rw [tok_drop, e]; rfl
  rw [e] at h; exact ⟨t, by rw [hr], ht, h, by omega⟩
theorem may_y {s : List UInt8} {a b : Cmd} (c : hd (isT s) (ts.drop j) = true) (hg : runC en Rr (mayC s a b) (ts.drop j) = O) : runC en Rr a (ts.drop (j + 1)) = O := by
 obtain ⟨t, e, _⟩ := dr c; rw [← hg]; simp only [mayC, runC]; rw [if_pos c, e, runC]
theorem may_n {s : List UInt8} {a b : Cmd} (c : hd (isT s) (ts.drop j) = false) (hg : runC en Rr (mayC s a b) (ts.drop j) = O) : runC en Rr b (ts.drop j) = O := by
 rw [← hg]; simp [mayC, runC, c]
theorem must_y {s : List UInt8} {k : Tok -> Cmd} (c : hd (isT s) (ts.drop j) = true) (hg : runC en Rr (mustC s k) (ts.drop j) = O) : ∃ t, ts[j]? = some t /\ t.pos = place en (ts.drop j) /\ runC en Rr (k t) (ts.drop (j + 1)) = O := by
 obtain ⟨t, e, h, _⟩ := dr c; refine ⟨t, h, by rw [e]; rfl, ?_⟩; rw [← hg]; simp only [mustC, runC]; rw [if_pos c, e, runC]
theorem must_n {s : List UInt8} {k : Tok -> Cmd} (c : hd (isT s) (ts.drop j) = false) (hg : runC en Rr (mustC s k) (ts.drop j) = O) : O = .no (ts.drop j) := by
 rw [← hg]; simp [mustC, runC, c]
theorem kind_y {n : Nat} {k : Tok -> Cmd} (c : hd (isK n) (ts.drop j) = true) (hg : runC en Rr (kindC n k) (ts.drop j) = O) : ∃ t, ts[j]? = some t /\ runC en Rr (k t) (ts.drop (j + 1)) = O := by
 obtain ⟨t, e, h, _⟩ := dr c; refine ⟨t, h, ?_⟩; rw [← hg]; simp only [kindC, runC]; rw [if_pos c, e, runC]
theorem kind_n {n : Nat} {k : Tok -> Cmd} (c : hd (isK n) (ts.drop j) = false) (hg : runC en Rr (kindC n k) (ts.drop j) = O) : O = .no (ts.drop j) := by
 rw [← hg]; simp [kindC, runC, c]
theorem lt_y {p : Tok -> Bool} (c : hd p (ts.drop j) = true) : j + 1 <= ts.length := by
 obtain ⟨_, _, _, _, h⟩ := dr c; exact h
end
theorem tok_form {w : World} {v : Value} {ts : List Tok} (hn : ts ≠ []) (h : TokSl w v ts) : ∃ tb toff cap, v = .slice (some ⟨tb, toff, none⟩) ts.length cap /\ ts.length <= cap /\ tb < w.heap.size := by
 obtain ⟨_, a, cap, rfl, hc, _, h⟩ := h
 rcases h with h | ⟨b, off, rfl, hb, _⟩
 ·exact absurd h hn
 ·exact ⟨b, off, cap, rfl, hc, hb⟩
theorem tok_cells {w : World} {tb toff cap n : Nat} {ts : List Tok} (h : TokSl w (.slice (some ⟨tb, toff, none⟩) n cap) ts) {j : Nat} {t : Tok} (ht : ts[j]? = some t) :
  w.cell? ⟨tb, toff + j * 4, none⟩ = some (.int .i64 t.kind) /\ w.cell? ⟨tb, toff + j * 4 + 1, none⟩ = some (.string ⟨t.text.toArray⟩) /\ w.cell? ⟨tb, toff + j * 4 + 2, none⟩ = some (.int .i64 t.val) /\ w.cell? ⟨tb, toff + j * 4 + 3, none⟩ = some (.int .i64 t.pos) := by
 obtain ⟨_, a, c, e, _, _, h⟩ := h
 simp only [Value.slice.injEq] at e
 obtain ⟨rfl, rfl, rfl⟩ := e
 rcases h with h | ⟨b, off, e, _, h⟩
 ·subst h; simp at ht
 ·simp only [Option.some.injEq, Addr.mk.injEq] at e
  obtain ⟨rfl, rfl, _⟩ := e; exact h j t ht
theorem rb2 {n : Nat} {w w1 w2 : World} (h1 : Below n w w1) (h2 : Below w1.heap.size w1 w2) (hn : n <= w1.heap.size) : Below n w w2 := h1.trans (h2.mono hn)
theorem lta {p : Prop} (h : p := by first | omega | (simp; done) | (simp; omega)) : p := h
theorem dsa {p : Prop} (h : p := by first | (dsimp only; omega) | (simp; done) | (simp; omega)) : p := h
theorem hza {p : Prop} (h : p := by first | rfl | omega | (push_cast; omega)) : p := h
theorem belr {p : Prop} (h : p := by repeat (first | with_reducible exact Below.refl _ _ | with_reducible refine Below.alloc ?_ lta _ | with_reducible refine Below.drew ?_ | with_reducible refine Below.setCell ?_ dsa _ | with_reducible refine rb2 ?_ (by assumption) lta)) : p := h
theorem belh {n : Nat} {a w0 w1 : World} (h0 : Below n a w0) (h : Below n a w0 -> Below n a w1 := by intro hq; repeat (first | with_reducible exact hq | with_reducible refine Below.alloc ?_ lta _ | with_reducible refine Below.drew ?_ | with_reducible refine Below.setCell ?_ dsa _ | with_reducible refine rb2 ?_ (by assumption) lta)) : Below n a w1 := h h0
theorem kpt {p : Prop} (h : p := by repeat (first | with_reducible assumption | with_reducible exact Kept.refl _ _ | with_reducible refine Kept.alloc ?_ _ | with_reducible refine Kept.drew ?_ | with_reducible refine Kept.setCell ?_ (by first | (left; dsimp only; omega) | (right; dsimp only; omega) | (left; simp; done) | (left; simp; omega) | (right; simp; done) | (right; simp; omega)) _ | with_reducible refine Kept.below ?_ (by assumption))) : p := h
theorem blkn {p : Prop} (h : p := by repeat (first | (with_reducible refine Blk.new ?_; first | rfl | (simp; done)) | with_reducible refine Blk.alloc _ ?_ | with_reducible refine Blk.drew ?_ | with_reducible refine Blk.other dsa ?_ | with_reducible refine Blk.below (by assumption) lta ?_)) : p := h
theorem blkh {w0 w1 : World} {b t : Nat} {vs : Array Value} (h0 : Blk w0 b vs t) (h : Blk w0 b vs t -> Blk w1 b vs t := by intro hq; repeat (first | with_reducible exact hq | with_reducible refine Blk.alloc _ ?_ | with_reducible refine Blk.drew ?_ | with_reducible refine Blk.other dsa ?_ | with_reducible refine Blk.below (by assumption) lta ?_)) : Blk w1 b vs t := h h0
theorem blkl {w0 : World} {b t : Nat} {vs : Array Value} (w1 : World) (h0 : Blk w0 b vs t) (h : Blk w0 b vs t -> Blk w1 b vs t := by intro hq; repeat (first | with_reducible exact hq | with_reducible refine Blk.alloc _ ?_ | with_reducible refine Blk.drew ?_ | with_reducible refine Blk.other dsa ?_ | with_reducible refine Blk.below (by assumption) lta ?_)) : Blk w1 b vs t := h h0
theorem blkc {w : World} {b t o : Nat} {vs : Array Value} {u : Value} (h : Blk w b vs t) (hu : ∀ c, c < 6 -> vs[o + c]? = some (comp u c)) : ∀ c, c < 6 -> w.cell? ⟨b, o + c, none⟩ = some (comp u c) := fun c hc => h.cell (o + c) (hu c hc)
theorem blkc0 {w : World} {b t : Nat} {vs : Array Value} {u : Value} (h : Blk w b vs t) (hu : ∀ c, c < 6 -> vs[c]? = some (comp u c)) : ∀ c, c < 6 -> w.cell? ⟨b, c, none⟩ = some (comp u c) := fun c hc => h.cell c (hu c hc)
theorem tke {P : Program} {md : Region.Mode} {ops : Array Oper} {Q : Exit -> Act -> World -> Prop} {S : World -> Prop} (i : Nat) {oi : Oper} (v : Value) {fuel : Nat} {listed : Array Bool} {a : Act} {w : World} (hi : ops[i]? = some oi) (hy : YieldsIf P ops S oi v a) (hS : S w)
  (h : wpAnyH P md ops Q S fuel (listed.setIfInBounds i true) (a.put oi.dst v) w) (hQ : ∀ c a w, Q (.panic c) (a.put oi.dst v) w -> Q (.panic c) a w := by exact fun _ _ _ h => h) (hs : Region.noSelect ops = true := by kernel_rfl) (hf : Region.free md ops listed i = true := by kernel_rfl) (hr : (Region.ready md ops listed).contains i = true := by kernel_rfl) :
  wpAnyH P md ops Q S (fuel + 1) listed a w := wpAnyH_take hi hs hf hr hQ hy hS h
theorem rdy {P : Program} {md : Region.Mode} {ops : Array Oper} {Q : Exit -> Act -> World -> Prop} {S : World -> Prop} {fuel : Nat} {listed : Array Bool} {a : Act} {w : World} (i : Nat) {o : Oper} (ho : ops[i]? = some o)
  (h : ∀ K' : Act -> World -> Prop, Shut (∀ a w, S w -> (S w -> wpAnyH P md ops Q S fuel (listed.setIfInBounds i true) a w) -> K' a w) -> if Region.wanted o (yielded ops a.tmps) = true then Oper.wp P o a w K' Q else K' (a.put o.dst undef) w)
  (hr : Region.ready md ops listed = [i] := by kernel_rfl) : wpAnyH P md ops Q S (fuel + 1) listed a w := wpAnyH_ready hr (by simp) (AllReadyH.cons ho h AllReadyH.nil)
theorem hbl {n : Nat} {a w0 : World} (w1 : World) (h0 : Hid (Below n a w0)) (h : Below n a w0 -> Below n a w1 := by intro hq; repeat (first | with_reducible exact hq | with_reducible refine Below.alloc ?_ lta _ | with_reducible refine Below.drew ?_ | with_reducible refine Below.setCell ?_ dsa _ | with_reducible refine rb2 ?_ (by assumption) lta)) : Hid (Below n a w1) := hi_ (h h0.out)
theorem tv {v : Value} {ts : List Tok} {w w0 w1 : World} (hv : Hid (TokSl w v ts)) (h0 : Hid (Below w.heap.size w w0)) (h : Below w.heap.size w w0 -> Below w.heap.size w w1 := by intro hq; repeat (first | with_reducible exact hq | with_reducible refine Below.alloc ?_ lta _ | with_reducible refine Below.drew ?_ | with_reducible refine Below.setCell ?_ dsa _ | with_reducible refine rb2 ?_ (by assumption) lta)) : TokSl w1 v ts := hv.out.below (h h0.out)
theorem named {K : Act -> World -> Prop} {a : Act} {w : World} (h : ∀ W, W = w -> K a W) : K a w := h w rfl
theorem ExV.kept_of {lo : Nat} {w w' : World} {v : Value} {x : Ex} (_ : ExV lo w v x) (k : Kept lo w w') : Kept lo w w' := k
theorem cells1 {w : World} {b t : Nat} {v0 : Value} {p : Prop} (h : Hid (Blk w b #[v0] t)) (k : w.cell? ⟨b, 0, none⟩ = some v0 -> b < w.heap.size -> p) : p := k (h.out.cell 0 rfl) h.out.lt
theorem fcells1 {w : World} {b t : Nat} {v0 : Value} {p : Prop} (h : Hid (Blk w b #[v0] t)) (k : w.cell? ⟨b, 0, none⟩ = some v0 -> w.frozen? ⟨b, 0, none⟩ = false -> b < w.heap.size -> p) : p := k (h.out.cell 0 rfl) (h.out.free 0) h.out.lt
theorem cells2 {w : World} {b t : Nat} {v0 v1 : Value} {p : Prop} (h : Hid (Blk w b #[v0, v1] t)) (k : w.cell? ⟨b, 0, none⟩ = some v0 -> w.cell? ⟨b, 1, none⟩ = some v1 -> b < w.heap.size -> p) : p := k (h.out.cell 0 rfl) (h.out.cell 1 rfl) h.out.lt
theorem fcells2 {w : World} {b t : Nat} {v0 v1 : Value} {p : Prop} (h : Hid (Blk w b #[v0, v1] t)) (k : w.cell? ⟨b, 0, none⟩ = some v0 -> w.cell? ⟨b, 1, none⟩ = some v1 -> w.frozen? ⟨b, 0, none⟩ = false -> w.frozen? ⟨b, 1, none⟩ = false -> b < w.heap.size -> p) : p := k (h.out.cell 0 rfl) (h.out.cell 1 rfl) (h.out.free 0) (h.out.free 1) h.out.lt
theorem cells4 {w : World} {b t : Nat} {v0 v1 v2 v3 : Value} {p : Prop} (h : Hid (Blk w b #[v0, v1, v2, v3] t)) (k : w.cell? ⟨b, 0, none⟩ = some v0 -> w.cell? ⟨b, 1, none⟩ = some v1 -> w.cell? ⟨b, 2, none⟩ = some v2 -> w.cell? ⟨b, 3, none⟩ = some v3 -> b < w.heap.size -> p) : p := k (h.out.cell 0 rfl) (h.out.cell 1 rfl) (h.out.cell 2 rfl) (h.out.cell 3 rfl) h.out.lt
theorem fcells4 {w : World} {b t : Nat} {v0 v1 v2 v3 : Value} {p : Prop} (h : Hid (Blk w b #[v0, v1, v2, v3] t)) (k : w.cell? ⟨b, 0, none⟩ = some v0 -> w.cell? ⟨b, 1, none⟩ = some v1 -> w.cell? ⟨b, 2, none⟩ = some v2 -> w.cell? ⟨b, 3, none⟩ = some v3 -> w.frozen? ⟨b, 0, none⟩ = false -> w.frozen? ⟨b, 1, none⟩ = false -> w.frozen? ⟨b, 2, none⟩ = false -> w.frozen? ⟨b, 3, none⟩ = false -> b < w.heap.size -> p) : p := k (h.out.cell 0 rfl) (h.out.cell 1 rfl) (h.out.cell 2 rfl) (h.out.cell 3 rfl) (h.out.free 0) (h.out.free 1) (h.out.free 2) (h.out.free 3) h.out.lt
theorem cells5 {w : World} {b t : Nat} {v0 v1 v2 v3 v4 : Value} {p : Prop} (h : Hid (Blk w b #[v0, v1, v2, v3, v4] t)) (k : w.cell? ⟨b, 0, none⟩ = some v0 -> w.cell? ⟨b, 1, none⟩ = some v1 -> w.cell? ⟨b, 2, none⟩ = some v2 -> w.cell? ⟨b, 3, none⟩ = some v3 -> w.cell? ⟨b, 4, none⟩ = some v4 -> b < w.heap.size -> p) : p := k (h.out.cell 0 rfl) (h.out.cell 1 rfl) (h.out.cell 2 rfl) (h.out.cell 3 rfl) (h.out.cell 4 rfl) h.out.lt
theorem fcells5 {w : World} {b t : Nat} {v0 v1 v2 v3 v4 : Value} {p : Prop} (h : Hid (Blk w b #[v0, v1, v2, v3, v4] t)) (k : w.cell? ⟨b, 0, none⟩ = some v0 -> w.cell? ⟨b, 1, none⟩ = some v1 -> w.cell? ⟨b, 2, none⟩ = some v2 -> w.cell? ⟨b, 3, none⟩ = some v3 -> w.cell? ⟨b, 4, none⟩ = some v4 -> w.frozen? ⟨b, 0, none⟩ = false -> w.frozen? ⟨b, 1, none⟩ = false -> w.frozen? ⟨b, 2, none⟩ = false -> w.frozen? ⟨b, 3, none⟩ = false -> w.frozen? ⟨b, 4, none⟩ = false -> b < w.heap.size -> p) : p := k (h.out.cell 0 rfl) (h.out.cell 1 rfl) (h.out.cell 2 rfl) (h.out.cell 3 rfl) (h.out.cell 4 rfl) (h.out.free 0) (h.out.free 1) (h.out.free 2) (h.out.free 3) (h.out.free 4) h.out.lt
theorem cells6 {w : World} {b t : Nat} {v0 v1 v2 v3 v4 v5 : Value} {p : Prop} (h : Hid (Blk w b #[v0, v1, v2, v3, v4, v5] t)) (k : w.cell? ⟨b, 0, none⟩ = some v0 -> w.cell? ⟨b, 1, none⟩ = some v1 -> w.cell? ⟨b, 2, none⟩ = some v2 -> w.cell? ⟨b, 3, none⟩ = some v3 -> w.cell? ⟨b, 4, none⟩ = some v4 -> w.cell? ⟨b, 5, none⟩ = some v5 -> b < w.heap.size -> p) : p := k (h.out.cell 0 rfl) (h.out.cell 1 rfl) (h.out.cell 2 rfl) (h.out.cell 3 rfl) (h.out.cell 4 rfl) (h.out.cell 5 rfl) h.out.lt
theorem fcells6 {w : World} {b t : Nat} {v0 v1 v2 v3 v4 v5 : Value} {p : Prop} (h : Hid (Blk w b #[v0, v1, v2, v3, v4, v5] t)) (k : w.cell? ⟨b, 0, none⟩ = some v0 -> w.cell? ⟨b, 1, none⟩ = some v1 -> w.cell? ⟨b, 2, none⟩ = some v2 -> w.cell? ⟨b, 3, none⟩ = some v3 -> w.cell? ⟨b, 4, none⟩ = some v4 -> w.cell? ⟨b, 5, none⟩ = some v5 -> w.frozen? ⟨b, 0, none⟩ = false -> w.frozen? ⟨b, 1, none⟩ = false -> w.frozen? ⟨b, 2, none⟩ = false -> w.frozen? ⟨b, 3, none⟩ = false -> w.frozen? ⟨b, 4, none⟩ = false -> w.frozen? ⟨b, 5, none⟩ = false -> b < w.heap.size -> p) : p := k (h.out.cell 0 rfl) (h.out.cell 1 rfl) (h.out.cell 2 rfl) (h.out.cell 3 rfl) (h.out.cell 4 rfl) (h.out.cell 5 rfl) (h.out.free 0) (h.out.free 1) (h.out.free 2) (h.out.free 3) (h.out.free 4) (h.out.free 5) h.out.lt
theorem cells10 {w : World} {b t : Nat} {v0 v1 v2 v3 v4 v5 v6 v7 v8 v9 : Value} {p : Prop} (h : Hid (Blk w b #[v0, v1, v2, v3, v4, v5, v6, v7, v8, v9] t)) (k : w.cell? ⟨b, 0, none⟩ = some v0 -> w.cell? ⟨b, 1, none⟩ = some v1 -> w.cell? ⟨b, 2, none⟩ = some v2 -> w.cell? ⟨b, 3, none⟩ = some v3 -> w.cell? ⟨b, 4, none⟩ = some v4 -> w.cell? ⟨b, 5, none⟩ = some v5 -> w.cell? ⟨b, 6, none⟩ = some v6 -> w.cell? ⟨b, 7, none⟩ = some v7 -> w.cell? ⟨b, 8, none⟩ = some v8 -> w.cell? ⟨b, 9, none⟩ = some v9 -> b < w.heap.size -> p) : p := k (h.out.cell 0 rfl) (h.out.cell 1 rfl) (h.out.cell 2 rfl) (h.out.cell 3 rfl) (h.out.cell 4 rfl) (h.out.cell 5 rfl) (h.out.cell 6 rfl) (h.out.cell 7 rfl) (h.out.cell 8 rfl) (h.out.cell 9 rfl) h.out.lt
theorem fcells10 {w : World} {b t : Nat} {v0 v1 v2 v3 v4 v5 v6 v7 v8 v9 : Value} {p : Prop} (h : Hid (Blk w b #[v0, v1, v2, v3, v4, v5, v6, v7, v8, v9] t)) (k : w.cell? ⟨b, 0, none⟩ = some v0 -> w.cell? ⟨b, 1, none⟩ = some v1 -> w.cell? ⟨b, 2, none⟩ = some v2 -> w.cell? ⟨b, 3, none⟩ = some v3 -> w.cell? ⟨b, 4, none⟩ = some v4 -> w.cell? ⟨b, 5, none⟩ = some v5 -> w.cell? ⟨b, 6, none⟩ = some v6 -> w.cell? ⟨b, 7, none⟩ = some v7 -> w.cell? ⟨b, 8, none⟩ = some v8 -> w.cell? ⟨b, 9, none⟩ = some v9 -> w.frozen? ⟨b, 0, none⟩ = false -> w.frozen? ⟨b, 1, none⟩ = false -> w.frozen? ⟨b, 2, none⟩ = false -> w.frozen? ⟨b, 3, none⟩ = false -> w.frozen? ⟨b, 4, none⟩ = false -> w.frozen? ⟨b, 5, none⟩ = false -> w.frozen? ⟨b, 6, none⟩ = false -> w.frozen? ⟨b, 7, none⟩ = false -> w.frozen? ⟨b, 8, none⟩ = false -> w.frozen? ⟨b, 9, none⟩ = false -> b < w.heap.size -> p) : p := k (h.out.cell 0 rfl) (h.out.cell 1 rfl) (h.out.cell 2 rfl) (h.out.cell 3 rfl) (h.out.cell 4 rfl) (h.out.cell 5 rfl) (h.out.cell 6 rfl) (h.out.cell 7 rfl) (h.out.cell 8 rfl) (h.out.cell 9 rfl) (h.out.free 0) (h.out.free 1) (h.out.free 2) (h.out.free 3) (h.out.free 4) (h.out.free 5) (h.out.free 6) (h.out.free 7) (h.out.free 8) (h.out.free 9) h.out.lt
theorem cells12 {w : World} {b t : Nat} {v0 v1 v2 v3 v4 v5 v6 v7 v8 v9 v10 v11 : Value} {p : Prop} (h : Hid (Blk w b #[v0, v1, v2, v3, v4, v5, v6, v7, v8, v9, v10, v11] t)) (k : w.cell? ⟨b, 0, none⟩ = some v0 -> w.cell? ⟨b, 1, none⟩ = some v1 -> w.cell? ⟨b, 2, none⟩ = some v2 -> w.cell? ⟨b, 3, none⟩ = some v3 -> w.cell? ⟨b, 4, none⟩ = some v4 -> w.cell? ⟨b, 5, none⟩ = some v5 -> w.cell? ⟨b, 6, none⟩ = some v6 -> w.cell? ⟨b, 7, none⟩ = some v7 -> w.cell? ⟨b, 8, none⟩ = some v8 -> w.cell? ⟨b, 9, none⟩ = some v9 -> w.cell? ⟨b, 10, none⟩ = some v10 -> w.cell? ⟨b, 11, none⟩ = some v11 -> b < w.heap.size -> p) : p := k (h.out.cell 0 rfl) (h.out.cell 1 rfl) (h.out.cell 2 rfl) (h.out.cell 3 rfl) (h.out.cell 4 rfl) (h.out.cell 5 rfl) (h.out.cell 6 rfl) (h.out.cell 7 rfl) (h.out.cell 8 rfl) (h.out.cell 9 rfl) (h.out.cell 10 rfl) (h.out.cell 11 rfl) h.out.lt
theorem fcells12 {w : World} {b t : Nat} {v0 v1 v2 v3 v4 v5 v6 v7 v8 v9 v10 v11 : Value} {p : Prop} (h : Hid (Blk w b #[v0, v1, v2, v3, v4, v5, v6, v7, v8, v9, v10, v11] t)) (k : w.cell? ⟨b, 0, none⟩ = some v0 -> w.cell? ⟨b, 1, none⟩ = some v1 -> w.cell? ⟨b, 2, none⟩ = some v2 -> w.cell? ⟨b, 3, none⟩ = some v3 -> w.cell? ⟨b, 4, none⟩ = some v4 -> w.cell? ⟨b, 5, none⟩ = some v5 -> w.cell? ⟨b, 6, none⟩ = some v6 -> w.cell? ⟨b, 7, none⟩ = some v7 -> w.cell? ⟨b, 8, none⟩ = some v8 -> w.cell? ⟨b, 9, none⟩ = some v9 -> w.cell? ⟨b, 10, none⟩ = some v10 -> w.cell? ⟨b, 11, none⟩ = some v11 -> w.frozen? ⟨b, 0, none⟩ = false -> w.frozen? ⟨b, 1, none⟩ = false -> w.frozen? ⟨b, 2, none⟩ = false -> w.frozen? ⟨b, 3, none⟩ = false -> w.frozen? ⟨b, 4, none⟩ = false -> w.frozen? ⟨b, 5, none⟩ = false -> w.frozen? ⟨b, 6, none⟩ = false -> w.frozen? ⟨b, 7, none⟩ = false -> w.frozen? ⟨b, 8, none⟩ = false -> w.frozen? ⟨b, 9, none⟩ = false -> w.frozen? ⟨b, 10, none⟩ = false -> w.frozen? ⟨b, 11, none⟩ = false -> b < w.heap.size -> p) : p := k (h.out.cell 0 rfl) (h.out.cell 1 rfl) (h.out.cell 2 rfl) (h.out.cell 3 rfl) (h.out.cell 4 rfl) (h.out.cell 5 rfl) (h.out.cell 6 rfl) (h.out.cell 7 rfl) (h.out.cell 8 rfl) (h.out.cell 9 rfl) (h.out.cell 10 rfl) (h.out.cell 11 rfl) (h.out.free 0) (h.out.free 1) (h.out.free 2) (h.out.free 3) (h.out.free 4) (h.out.free 5) (h.out.free 6) (h.out.free 7) (h.out.free 8) (h.out.free 9) (h.out.free 10) (h.out.free 11) h.out.lt
theorem blkb {w0 w1 w2 : World} {b t : Nat} {vs : Array Value} (hb : Below w1.heap.size w1 w2) (h0 : Blk w0 b vs t) (hn : b < w1.heap.size := by first | omega | (simp; done) | (simp; omega)) (h : Blk w0 b vs t → Blk w1 b vs t := by intro hq; repeat (first | with_reducible exact hq | with_reducible refine Blk.alloc _ ?_ | with_reducible refine Blk.drew ?_ | with_reducible refine Blk.other (by first | (dsimp only; omega) | (simp; done) | (simp; omega)) ?_)) : Blk w2 b vs t := Blk.below hb hn (h h0)
theorem belb {n : Nat} {a w0 w1 w2 : World} (h0 : Below n a w0) (hb : Below w1.heap.size w1 w2) (hn : n ≤ w1.heap.size := by first | omega | (simp; done) | (simp; omega)) (h : Below n a w0 → Below n a w1 := by intro hq; repeat (first | with_reducible exact hq | with_reducible refine Below.alloc ?_ (by first | omega | (simp; done) | (simp; omega)) _ | with_reducible refine Below.drew ?_ | with_reducible refine Below.setCell ?_ (by first | (dsimp only; omega) | (simp; done) | (simp; omega)) _ | with_reducible refine rb2 ?_ (by assumption) (by first | omega | (simp; done) | (simp; omega)))) : Below n a w2 := rb2 (h h0) hb hn
/-- A region that draws its order: a condition is kept through all of it. -/
theorem wp_region_held {P : Program} {l : List Oper} {Q : Exit -> Act -> World -> Prop} {id : Nat} {a : Act} {w : World} (S : World -> Prop) (hm : P.follows .mixedOrders = true) (hS : S w.drew)
  (h : S w.drew -> wpAnyH P .any l.toArray Q S l.length (Array.replicate l.length false) a w.drew) : (Code.region id l.toArray true).wp P Q a w := by
 refine wp_region_any hm ?_; have := wpAny_of_held _ _ _ _ (h hS)
 simpa using this
end Go.Proofs.YtlkidgilhlpjhaaGreatDoor
