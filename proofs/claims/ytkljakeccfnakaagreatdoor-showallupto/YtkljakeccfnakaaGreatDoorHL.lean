/-
  Behind a unit: how what goes on is told; two parts joined.
-/
import Derived.Test.YtkljakeccfnakaaGreatDoorHabc
import Derived.Test.YtkljakeccfnakaaGreatDoorGg
namespace Go.Proofs.YtkljakeccfnakaaGreatDoor
open Go.RowKit

/-- What is done behind a part. -/
def thenO (en f : Nat) (k : Ex → Cmd) (o : Out) : Out := match o with
  | .ok x r => runC en (P en f) (k x) r
  | .no r => .no r
  | .lim p => .lim p
  | .out => .out
theorem run_call {en f : Nat} {s : Sym} {k : Ex → Cmd} {ts : List Tok} : runC en (P en f) (.call s k) ts = thenO en f k (P en f s ts) := by
  simp only [runC, thenO]
  cases P en f s ts <;> rfl
theorem run_tail {en f : Nat} {s : Sym} {ts : List Tok} : runC en (P en f) (.call s .ret) ts = P en f s ts := by
  simp only [runC]
  cases P en f s ts <;> rfl
theorem gone_then {en f : Nat} {k : Ex → Cmd} {o : Out} {c p : Nat} (h : Gone en o c p) : Gone en (thenO en f k o) c p := by
  rcases h with ⟨hc, r, rfl, hp⟩ | ⟨hc, rfl⟩
  · exact Or.inl ⟨hc, r, rfl, hp⟩
  · exact Or.inr ⟨hc, rfl⟩
theorem then_out {en f : Nat} {k : Ex → Cmd} {o : Out} (h : thenO en f k o ≠ .out) : o ≠ .out := fun e => h (by rw [e]; rfl)
/-- What comes of a part, with the part's own answer. -/
theorem Reads.more {Z R en f F : Nat} {s : Sym} (h : Reads Z R en f F s) {ts : List Tok} {w : World} (hw : St Z R en w ts) (hO : P en f s ts ≠ .out) :
    Calls Tryz.prog F #[.pointer (some ⟨R, 0, none⟩)] w fun e w' => But R w w' ∧ ((∃ v x r, e = .returned v ∧ ExV w.heap.size w' v x ∧ St Z R en w' r ∧ P en f s ts = .ok x r) ∨ (∃ c p : Nat, e = .panicked [{ v := .iface 73 (.agg #[.int .i64 c, .int .i64 p]), recovered := false }] ∧ Gone en (P en f s ts) c p)) := by
  refine (h .ret ts _ w hw hO run_tail).mono ?_
  rintro e w' ⟨hb, ⟨v, x, r, he, hx, hs, hr⟩ | hG⟩
  · exact ⟨hb, Or.inl ⟨v, x, r, he, hx, hs, hr.symm⟩⟩
  · exact ⟨hb, Or.inr hG⟩
def tokLen (R : Nat) (w : World) : Nat := match w.cell? ⟨R, 0, none⟩ with | some (.slice _ n _) => n | _ => 0
theorem St.len {Z R en : Nat} {w : World} {ts : List Tok} (h : St Z R en w ts) : tokLen R w = ts.length := by
  obtain ⟨a, cap, hr, _⟩ := h.ex
  simp [tokLen, World.cell?, hr]

/-- The value v is the expression x in the world w; its memory lies where q says. -/
inductive ExQ (q : Nat → Prop) (w : World) : Value → Ex → Prop
  | leaf (k : Nat) (t o : List UInt8) (n : Int) (p : Nat) : ExQ q w (exV k t o n p (.slice none 0 0)) (.mk k t o n p [])
  | node (k : Nat) (t o : List UInt8) (n : Int) (p b off cap : Nat) (kids : List Ex) (vs : Nat → Value) (hlo : q b) (hb : b < w.heap.size) (hcap : kids.length ≤ cap ∧ kids.length ≤ 1000000)
      (hc : ∀ j, j < kids.length → ∀ c, c < 6 → w.cell? ⟨b, off + j * 6 + c, none⟩ = some (comp (vs j) c)) (hk : ∀ j x, kids[j]? = some x → ExQ q w (vs j) x) :
      ExQ q w (exV k t o n p (.slice (some ⟨b, off, none⟩) kids.length cap)) (.mk k t o n p kids)
theorem ExV.toQ {lo : Nat} {q : Nat → Prop} {w : World} {v : Value} {x : Ex} (h : ExV lo w v x) (hq : ∀ b, lo ≤ b → b < w.heap.size → q b) : ExQ q w v x := by
  induction h with
  | leaf k t o n p => exact .leaf k t o n p
  | node k t o n p b off cap kids vs hlo hlt hcap hc _ ih => exact .node k t o n p b off cap kids vs (hq b hlo hlt) hlt hcap hc ih
theorem ExQ.toV {lo : Nat} {q : Nat → Prop} {w : World} {v : Value} {x : Ex} (h : ExQ q w v x) (hq : ∀ b, q b → lo ≤ b) : ExV lo w v x := by
  induction h with
  | leaf k t o n p => exact .leaf k t o n p
  | node k t o n p b off cap kids vs hlo hlt hcap hc _ ih => exact .node k t o n p b off cap kids vs (hq b hlo) hlt hcap hc ih
structure KeptQ (q : Nat → Prop) (w w' : World) : Prop where
  size : w.heap.size ≤ w'.heap.size
  block : ∀ b, q b → b < w.heap.size → w'.heap[b]? = w.heap[b]?
theorem KeptQ.refl (q : Nat → Prop) (w : World) : KeptQ q w w := ⟨Nat.le_refl _, fun _ _ _ => rfl⟩
theorem KeptQ.drew {q : Nat → Prop} {w w' : World} (h : KeptQ q w w') : KeptQ q w w'.drew := ⟨h.size, h.block⟩
theorem KeptQ.alloc {q : Nat → Prop} {w w' : World} (h : KeptQ q w w') (o : Obj) : KeptQ q w (w'.alloc o) :=
  ⟨Nat.le_trans h.size (by simp), fun b h1 h2 => (Below.heap_alloc _ _ _ (Nat.lt_of_lt_of_le h2 h.size)).trans (h.block b h1 h2)⟩
theorem KeptQ.setCell {q : Nat → Prop} {w w' : World} (h : KeptQ q w w') {p : Addr} (hp : q p.block → w.heap.size ≤ p.block) (u : Value) : KeptQ q w (w'.setCell p u) :=
  ⟨Nat.le_trans h.size (by simp), fun b h1 h2 => (Below.heap_setCell _ _ _ _ (fun e => by rw [e] at h1 h2; have := hp h1; omega)).trans (h.block b h1 h2)⟩
theorem KeptQ.but {q : Nat → Prop} {R : Nat} {w w1 w2 : World} (h : KeptQ q w w1) (hb : But R w1 w2) (hR : ¬ q R) : KeptQ q w w2 :=
  ⟨Nat.le_trans h.size hb.size, fun b h1 h2 => (hb.block b (Nat.lt_of_lt_of_le h2 h.size) (fun e => hR (e ▸ h1))).trans (h.block b h1 h2)⟩
theorem ExQ.keep {q : Nat → Prop} {w w' : World} {v : Value} {x : Ex} (h : ExQ q w v x) (hk : KeptQ q w w') : ExQ q w' v x := by
  induction h with
  | leaf k t o n p => exact .leaf k t o n p
  | node k t o n p b off cap kids vs hlo hlt hcap hc _ ih => exact .node k t o n p b off cap kids vs hlo (Nat.lt_of_lt_of_le hlt hk.size) hcap (fun j hj c h6 => (World.cell?_of_block (w := w) (hk.block b hlo hlt)).trans (hc j hj c h6)) ih
theorem ExQ.form2 {q : Nat → Prop} {w : World} {v : Value} {x : Ex} (h : ExQ q w v x) : ∃ (nn : Int) (tx ox : ByteArray) (a : Option Addr) (ln cp : Nat), v = .agg #[.int .i64 (x.kind : Int), .string tx, .string ox, .int .i64 nn, .int .i64 (x.pl : Int), .slice a ln cp] ∧ tx = ⟨x.text.toArray⟩ := by
  cases h with
  | leaf k t o n p => exact ⟨_, _, _, none, 0, 0, rfl, rfl⟩
  | node k t o n p b off cap kids vs => exact ⟨_, _, _, _, _, cap, rfl, rfl⟩
theorem exq_two {q : Nat → Prop} {w : World} {k p b : Nat} {t o : List UInt8} {n : Int} {u1 u2 : Value} {x g : Ex} (hlo : q b) (hb : b < w.heap.size) (c0 : ∀ c, c < 6 → w.cell? ⟨b, c, none⟩ = some (comp u1 c)) (c1 : ∀ c, c < 6 → w.cell? ⟨b, 6 + c, none⟩ = some (comp u2 c)) (h1 : ExQ q w u1 x) (h2 : ExQ q w u2 g) :
    ExQ q w (exV k t o n p (.slice (some ⟨b, 0, none⟩) 2 2)) (.mk k t o n p [x, g]) := by
  refine ExQ.node k t o n p b 0 2 [x, g] (fun j => if j = 0 then u1 else u2) hlo hb (by simp) (fun j hj c hc => ?_) (fun j y hy => ?_)
  · match j, hj with
    | 0, _ => rw [show 0 + 0 * 6 + c = c by omega]; exact c0 c hc
    | 1, _ => rw [show 0 + 1 * 6 + c = 6 + c by omega]; exact c1 c hc
  · match j, hy with
    | 0, hy => simp only [List.getElem?_cons_zero, Option.some.injEq] at hy; subst hy; exact h1
    | 1, hy => simp only [List.getElem?_cons_succ, List.getElem?_cons_zero, Option.some.injEq] at hy; subst hy; exact h2
theorem ExQ.imp {q q' : Nat → Prop} {w : World} {v : Value} {x : Ex} (h : ExQ q w v x) (hq : ∀ b, b < w.heap.size → q b → q' b) : ExQ q' w v x := by
  induction h with
  | leaf k t o n p => exact .leaf k t o n p
  | node k t o n p b off cap kids vs hlo hlt hcap hc _ ih => exact .node k t o n p b off cap kids vs (hq b hlt hlo) hlt hcap hc ih
/-- As q says, but not the three. -/
def Qn (q : Nat → Prop) (a b c : Nat) (k : Nat) : Prop := q k ∧ k ≠ a ∧ k ≠ b ∧ k ≠ c
theorem Qn.q {q : Nat → Prop} {a b c k : Nat} (h : Qn q a b c k) : q k := h.1
theorem Qn.no {q : Nat → Prop} {a b c k : Nat} (h : Qn q a b c k) : k ≠ a ∧ k ≠ b ∧ k ≠ c := h.2
theorem Qn.nor {q : Nat → Prop} {a b c k : Nat} (h : ¬ q k) : ¬ Qn q a b c k := fun e => h e.1
theorem Qn.of {q : Nat → Prop} {a b c k : Nat} (h : q k) (h2 : k ≠ a ∧ k ≠ b ∧ k ≠ c) : Qn q a b c k := ⟨h, h2⟩
/-- A function that goes on behind a unit. -/
def Goes (Z R en f : Nat) (F : Nat) (c : Nat → Ex → (Ex → Cmd) → Cmd) : Prop :=
  ∀ (p0 : Nat) (v : Value) (x : Ex) (q : Nat → Prop) (k : Ex → Cmd) (ts : List Tok) (O : Out) (w : World), St Z R en w ts → (∀ b, w.heap.size ≤ b → q b) → ¬ q R → ExQ q w v x → O ≠ .out → runC en (P en f) (c p0 x k) ts = O →
    Calls Tryz.prog F #[.pointer (some ⟨R, 0, none⟩), .int .i64 (p0 : Nat), v] w fun e w' => But R w w' ∧ ((∃ v x r, e = .returned v ∧ ExQ q w' v x ∧ St Z R en w' r ∧ runC en (P en f) (k x) r = O) ∨ (∃ c p : Nat, e = .panicked [{ v := .iface 73 (.agg #[.int .i64 c, .int .i64 p]), recovered := false }] ∧ Gone en O c p))

set_option maxHeartbeats 4000000 in
/-- Two parts joined. -/
theorem join_any (kd : Nat) (sg : ByteArray) (p0 : Nat) (v1 v2 : Value) (x1 x2 : Ex) (q : Nat → Prop) (w : World) (hq : ∀ b, w.heap.size ≤ b → q b) (h1 : ExQ q w v1 x1) (h2 : ExQ q w v2 x2) :
    Calls Tryz.prog 171 #[.int .i64 (kd : Nat), .string sg, .int .i64 (p0 : Nat), v1, v2] w fun e w' => (∃ v, e = .returned v ∧ ExQ q w' v (joinE kd sg.data.toList p0 x1 x2)) ∧ Below w.heap.size w w' := by
  obtain ⟨nn1, tx1, ox1, a1, ln1, cp1, rfl, -⟩ := h1.form2
  obtain ⟨nn2, tx2, ox2, a2, ln2, cp2, rfl, -⟩ := h2.form2
  have HX1 := Hid.intro h1
  have HX2 := Hid.intro h2
  have HQ := Hid.intro (hq (w.heap.size + 3) (by omega))
  clear h1 h2 hq
  go_enter Tryz.func171, Tryz.ntmps171
  go_wp2
  refine bodyPost_ret (v := .agg #[.int .i64 (kd : Nat), .string sg, .string ⟨#[]⟩, .int .i64 0, .int .i64 (p0 : Nat), .slice (some ⟨w.heap.size + 3, 0, none⟩) 2 2]) (by simp [results, Tryz.results171, go_sem, *]) rfl ⟨⟨_, rfl, ?_⟩, ?_⟩
  · refine exq_two (k := kd) (t := sg.data.toList) (o := []) (n := 0) (p := p0) (u1 := .agg #[.int .i64 (x1.kind : Int), .string tx1, .string ox1, .int .i64 nn1, .int .i64 (x1.pl : Int), .slice a1 ln1 cp1]) (u2 := .agg #[.int .i64 (x2.kind : Int), .string tx2, .string ox2, .int .i64 nn2, .int .i64 (x2.pl : Int), .slice a2 ln2 cp2]) HQ.out (by first | omega | (simp; done) | (simp; omega)) ?_ ?_ (HX1.out.keep ?_) (HX2.out.keep ?_)
    · refine six ?_ ?_ ?_ ?_ ?_ ?_
      all_goals first | (go_simp; done) | (go_simp; rfl)
    · refine six ?_ ?_ ?_ ?_ ?_ ?_
      all_goals first | (go_simp; done) | (go_simp; rfl)
    · repeat (first | with_reducible exact KeptQ.refl _ _ | with_reducible refine KeptQ.alloc ?_ _ | with_reducible refine KeptQ.setCell ?_ (by intro _; first | (dsimp only; omega) | (simp; done) | (simp; omega)) _)
    · repeat (first | with_reducible exact KeptQ.refl _ _ | with_reducible refine KeptQ.alloc ?_ _ | with_reducible refine KeptQ.setCell ?_ (by intro _; first | (dsimp only; omega) | (simp; done) | (simp; omega)) _)
  · exact (by repeat (first | with_reducible exact Below.refl _ _ | with_reducible refine ba ?_))

end Go.Proofs.YtkljakeccfnakaaGreatDoor
