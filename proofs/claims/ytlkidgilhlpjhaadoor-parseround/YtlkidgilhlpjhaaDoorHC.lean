/-
  Expressions in memory; how a reader's functions end.
-/
import Derived.Test.YtlkidgilhlpjhaaDoorHB
namespace Go.Proofs.YtlkidgilhlpjhaaDoor
open Go.RowKit

def comp (v : Value) (c : Nat) : Value := match v with | .agg a => a.getD c undef | _ => undef
def exV (k : Nat) (t o : List UInt8) (n : Int) (p : Nat) (s : Value) : Value := .agg #[.int .i64 (k : Int), .string ⟨t.toArray⟩, .string ⟨o.toArray⟩, .int .i64 n, .int .i64 (p : Int), s]
/-- The value v is the expression x in the world w; its memory lies from lo on. -/
inductive ExV (lo : Nat) (w : World) : Value → Ex → Prop
  | leaf (k : Nat) (t o : List UInt8) (n : Int) (p : Nat) : ExV lo w (exV k t o n p (.slice none 0 0)) (.mk k t o n p [])
  | node (k : Nat) (t o : List UInt8) (n : Int) (p b off cap : Nat) (kids : List Ex) (vs : Nat → Value) (hlo : lo ≤ b) (hb : b < w.heap.size) (hcap : kids.length ≤ cap ∧ kids.length ≤ 1000000)
      (hc : ∀ j, j < kids.length → ∀ c, c < 6 → w.cell? ⟨b, off + j * 6 + c, none⟩ = some (comp (vs j) c)) (hk : ∀ j x, kids[j]? = some x → ExV lo w (vs j) x) :
      ExV lo w (exV k t o n p (.slice (some ⟨b, off, none⟩) kids.length cap)) (.mk k t o n p kids)
/-- From lo on all that was there is as it was. -/
structure Kept (lo : Nat) (w w' : World) : Prop where
  size : w.heap.size ≤ w'.heap.size
  block : ∀ b, lo ≤ b → b < w.heap.size → w'.heap[b]? = w.heap[b]?
theorem Kept.refl (lo : Nat) (w : World) : Kept lo w w := ⟨Nat.le_refl _, fun _ _ _ => rfl⟩
theorem Kept.drew {lo : Nat} {w w' : World} (h : Kept lo w w') : Kept lo w w'.drew := ⟨h.size, h.block⟩
theorem Kept.alloc {lo : Nat} {w w' : World} (h : Kept lo w w') (o : Obj) : Kept lo w (w'.alloc o) :=
  ⟨Nat.le_trans h.size (by simp), fun b h1 h2 => (Below.heap_alloc _ _ _ (Nat.lt_of_lt_of_le h2 h.size)).trans (h.block b h1 h2)⟩
theorem Kept.setCell {lo : Nat} {w w' : World} (h : Kept lo w w') {p : Addr} (hp : p.block < lo ∨ w.heap.size ≤ p.block) (u : Value) : Kept lo w (w'.setCell p u) :=
  ⟨Nat.le_trans h.size (by simp), fun b h1 h2 => (Below.heap_setCell _ _ _ _ (by omega)).trans (h.block b h1 h2)⟩
theorem Kept.below {lo : Nat} {w w1 w2 : World} (h : Kept lo w w1) (hb : Below w1.heap.size w1 w2) : Kept lo w w2 :=
  ⟨Nat.le_trans h.size hb.size, fun b h1 h2 => (hb.block b (Nat.lt_of_lt_of_le h2 h.size)).trans (h.block b h1 h2)⟩
theorem Kept.but {lo R : Nat} {w w1 w2 : World} (h : Kept lo w w1) (hb : But R w1 w2) (hR : R < lo) : Kept lo w w2 :=
  ⟨Nat.le_trans h.size hb.size, fun b h1 h2 => (hb.block b (Nat.lt_of_lt_of_le h2 h.size) (by omega)).trans (h.block b h1 h2)⟩
theorem ExV.keep {lo : Nat} {w w' : World} {v : Value} {x : Ex} (h : ExV lo w v x) (hk : Kept lo w w') : ExV lo w' v x := by
  induction h with
  | leaf k t o n p => exact .leaf k t o n p
  | node k t o n p b off cap kids vs hlo hlt hcap hc _ ih => exact .node k t o n p b off cap kids vs hlo (Nat.lt_of_lt_of_le hlt hk.size) hcap (fun j hj c h6 => (World.cell?_of_block (w := w) (hk.block b hlo hlt)).trans (hc j hj c h6)) ih
theorem ExV.low {lo lo' : Nat} {w : World} {v : Value} {x : Ex} (h : ExV lo w v x) (hl : lo' ≤ lo) : ExV lo' w v x := by
  induction h with
  | leaf k t o n p => exact .leaf k t o n p
  | node k t o n p b off cap kids vs hlo hlt hcap hc _ ih => exact .node k t o n p b off cap kids vs (Nat.le_trans hl hlo) hlt hcap hc ih
theorem ExV.form {lo : Nat} {w : World} {v : Value} {x : Ex} (h : ExV lo w v x) : ∃ a cap, v = exV x.kind x.text x.other x.n x.pl (.slice a x.kids.length cap) := by
  cases h with
  | leaf k t o n p => exact ⟨none, 0, rfl⟩
  | node k t o n p b off cap kids vs => exact ⟨_, cap, rfl⟩
theorem ExV.form2 {lo : Nat} {w : World} {v : Value} {x : Ex} (h : ExV lo w v x) : ∃ (nn : Int) (tx ox : ByteArray) (a : Option Addr) (ln cp : Nat), v = .agg #[.int .i64 (x.kind : Int), .string tx, .string ox, .int .i64 nn, .int .i64 (x.pl : Int), .slice a ln cp] ∧ tx = ⟨x.text.toArray⟩ := by
  obtain ⟨a, cap, rfl⟩ := h.form
  exact ⟨_, _, _, a, _, cap, rfl, rfl⟩
theorem ExV.thru {lo R : Nat} {w w' : World} {v : Value} {x : Ex} (hb : But R w w') (hR : R < lo) (h : ExV lo w v x) : ExV lo w' v x := h.keep ((Kept.refl lo w).but hb hR)
/-- The six cells of a block that was there. -/
theorem keep6 {R : Nat} {W w1 : World} (hb : But R W w1) (b : Nat) (hne : b ≠ R) (x0 x1 x2 x3 x4 x5 : Value) (h : b < W.heap.size) (h0 : W.cell? ⟨b, 0, none⟩ = some x0) (h1 : W.cell? ⟨b, 1, none⟩ = some x1) (h2 : W.cell? ⟨b, 2, none⟩ = some x2) (h3 : W.cell? ⟨b, 3, none⟩ = some x3) (h4 : W.cell? ⟨b, 4, none⟩ = some x4) (h5 : W.cell? ⟨b, 5, none⟩ = some x5) (hf : ∀ o, W.frozen? ⟨b, o, none⟩ = false) :
    (w1.cell? ⟨b, 0, none⟩ = some x0 ∧ w1.cell? ⟨b, 1, none⟩ = some x1 ∧ w1.cell? ⟨b, 2, none⟩ = some x2 ∧ w1.cell? ⟨b, 3, none⟩ = some x3 ∧ w1.cell? ⟨b, 4, none⟩ = some x4 ∧ w1.cell? ⟨b, 5, none⟩ = some x5) ∧ (∀ o, w1.frozen? ⟨b, o, none⟩ = false) ∧ b < w1.heap.size := by
  have e := hb.block b h hne
  refine ⟨⟨(cell_of_block e).trans h0, (cell_of_block e).trans h1, (cell_of_block e).trans h2, (cell_of_block e).trans h3, (cell_of_block e).trans h4, (cell_of_block e).trans h5⟩, fun o => ?_, Nat.lt_of_lt_of_le h hb.size⟩
  have := hf o
  simp only [World.frozen?] at this ⊢
  rw [e]; exact this
theorem six {q : Nat → Prop} (h0 : q 0) (h1 : q 1) (h2 : q 2) (h3 : q 3) (h4 : q 4) (h5 : q 5) : ∀ c, c < 6 → q c := fun c hc => by
  match c, hc with
  | 0, _ => exact h0
  | 1, _ => exact h1
  | 2, _ => exact h2
  | 3, _ => exact h3
  | 4, _ => exact h4
  | 5, _ => exact h5
/-- An expression with one kid. -/
theorem ex_one {lo : Nat} {w : World} {k p b : Nat} {t o : List UInt8} {n : Int} {u1 : Value} {x : Ex} (hlo : lo ≤ b) (hb : b < w.heap.size) (c0 : ∀ c, c < 6 → w.cell? ⟨b, c, none⟩ = some (comp u1 c)) (h1 : ExV lo w u1 x) :
    ExV lo w (exV k t o n p (.slice (some ⟨b, 0, none⟩) 1 1)) (.mk k t o n p [x]) := by
  refine ExV.node k t o n p b 0 1 [x] (fun _ => u1) hlo hb (by simp) (fun j hj c hc => ?_) (fun j y hy => ?_)
  · match j, hj with
    | 0, _ => rw [show 0 + 0 * 6 + c = c by omega]; exact c0 c hc
  · match j, hy with
    | 0, hy => simp only [List.getElem?_cons_zero, Option.some.injEq] at hy; subst hy; exact h1
/-- An expression with two kids that lie side by side. -/
theorem ex_two {lo : Nat} {w : World} {k p b : Nat} {t o : List UInt8} {n : Int} {u1 u2 : Value} {x g : Ex} (hlo : lo ≤ b) (hb : b < w.heap.size) (c0 : ∀ c, c < 6 → w.cell? ⟨b, c, none⟩ = some (comp u1 c)) (c1 : ∀ c, c < 6 → w.cell? ⟨b, 6 + c, none⟩ = some (comp u2 c)) (h1 : ExV lo w u1 x) (h2 : ExV lo w u2 g) :
    ExV lo w (exV k t o n p (.slice (some ⟨b, 0, none⟩) 2 2)) (.mk k t o n p [x, g]) := by
  refine ExV.node k t o n p b 0 2 [x, g] (fun j => if j = 0 then u1 else u2) hlo hb (by simp) (fun j hj c hc => ?_) (fun j y hy => ?_)
  · match j, hj with
    | 0, _ => rw [show 0 + 0 * 6 + c = c by omega]; exact c0 c hc
    | 1, _ => rw [show 0 + 1 * 6 + c = 6 + c by omega]; exact c1 c hc
  · match j, hy with
    | 0, hy => simp only [List.getElem?_cons_zero, Option.some.injEq] at hy; subst hy; exact h1
    | 1, hy => simp only [List.getElem?_cons_succ, List.getElem?_cons_zero, Option.some.injEq] at hy; subst hy; exact h2
/-- An expression with three kids that lie side by side. -/
theorem ex_three {lo : Nat} {w : World} {k p b : Nat} {t o : List UInt8} {n : Int} {u1 u2 u3 : Value} {x g z : Ex} (hlo : lo ≤ b) (hb : b < w.heap.size) (c0 : ∀ c, c < 6 → w.cell? ⟨b, c, none⟩ = some (comp u1 c)) (c1 : ∀ c, c < 6 → w.cell? ⟨b, 6 + c, none⟩ = some (comp u2 c)) (c2 : ∀ c, c < 6 → w.cell? ⟨b, 12 + c, none⟩ = some (comp u3 c)) (h1 : ExV lo w u1 x) (h2 : ExV lo w u2 g) (h3 : ExV lo w u3 z) :
    ExV lo w (exV k t o n p (.slice (some ⟨b, 0, none⟩) 3 3)) (.mk k t o n p [x, g, z]) := by
  refine ExV.node k t o n p b 0 3 [x, g, z] (fun j => if j = 0 then u1 else if j = 1 then u2 else u3) hlo hb (by simp) (fun j hj c hc => ?_) (fun j y hy => ?_)
  · match j, hj with
    | 0, _ => rw [show 0 + 0 * 6 + c = c by omega]; exact c0 c hc
    | 1, _ => rw [show 0 + 1 * 6 + c = 6 + c by omega]; exact c1 c hc
    | 2, _ => rw [show 0 + 2 * 6 + c = 12 + c by omega]; exact c2 c hc
  · match j, hy with
    | 0, hy => simp only [List.getElem?_cons_zero, Option.some.injEq] at hy; subst hy; exact h1
    | 1, hy => simp only [List.getElem?_cons_succ, List.getElem?_cons_zero, Option.some.injEq] at hy; subst hy; exact h2
    | 2, hy => simp only [List.getElem?_cons_succ, List.getElem?_cons_zero, Option.some.injEq] at hy; subst hy; exact h3

theorem run_here {en : Nat} {Rr : Sym → List Tok → Out} {k : Nat → Cmd} {ts : List Tok} : runC en Rr (.here k) ts = runC en Rr (k (place en ts)) ts := rfl
/-- How a function that reads an expression ends. -/
def Ended (Z R en : Nat) (w : World) (O : Out) (G : Ex → List Tok → Prop) (e : Ending) (w' : World) : Prop :=
  But R w w' ∧ ((∃ v x r, e = .returned v ∧ ExV w.heap.size w' v x ∧ St Z R en w' r ∧ G x r) ∨ (∃ c p : Nat, e = .panicked [{ v := .iface 48 (.agg #[.int .i64 c, .int .i64 p]), recovered := false }] ∧ Gone en O c p))
/-- The same, of a function that is handed an expression whose memory lies from lo on. -/
def EndedL (lo Z R en : Nat) (w : World) (O : Out) (e : Ending) (w' : World) : Prop :=
  But R w w' ∧ ((∃ v x r, e = .returned v ∧ ExV lo w' v x ∧ St Z R en w' r ∧ O = .ok x r) ∨ (∃ c p : Nat, e = .panicked [{ v := .iface 48 (.agg #[.int .i64 c, .int .i64 p]), recovered := false }] ∧ Gone en O c p))
/-- A function that is handed numbers or words besides. -/
def ReadsA (Z R en f : Nat) (F : Nat) (args : Array Value) (c : Cmd) : Prop :=
  ∀ (ts : List Tok) (O : Out) (w : World), St Z R en w ts → O ≠ .out → runC en (P en f) c ts = O →
    Calls Tryd.prog F (#[.pointer (some ⟨R, 0, none⟩)] ++ args) w (Ended Z R en w O fun x r => O = .ok x r)
/-- A function that is handed an expression (and values ahead of it). -/
def ReadsX (Z R en f : Nat) (F : Nat) (args : Array Value) (c : Ex → Cmd) : Prop :=
  ∀ (v : Value) (x : Ex) (lo : Nat) (ts : List Tok) (O : Out) (w : World), St Z R en w ts → Z ≤ lo → lo ≤ w.heap.size → ExV lo w v x → O ≠ .out → runC en (P en f) (c x) ts = O →
    Calls Tryd.prog F (#[.pointer (some ⟨R, 0, none⟩)] ++ args ++ #[v]) w (EndedL lo Z R en w O)
/-- The contract of a function that reads the part s. -/
def Reads (Z R en f : Nat) (F : Nat) (s : Sym) : Prop :=
  ∀ (k : Ex → Cmd) (ts : List Tok) (O : Out) (w : World), St Z R en w ts → O ≠ .out → runC en (P en f) (.call s k) ts = O →
    Calls Tryd.prog F #[.pointer (some ⟨R, 0, none⟩)] w (Ended Z R en w O fun x r => runC en (P en f) (k x) r = O)
/-- The same of a function that reads what c tells. -/
def ReadsC (Z R en f : Nat) (F : Nat) (c : Cmd) : Prop :=
  ∀ (ts : List Tok) (O : Out) (w : World), St Z R en w ts → O ≠ .out → runC en (P en f) c ts = O →
    Calls Tryd.prog F #[.pointer (some ⟨R, 0, none⟩)] w (Ended Z R en w O fun x r => O = .ok x r)
/-- Whoever keeps a part's body keeps the part. -/
theorem Reads.of {Z R en f F : Nat} {s : Sym} (h : ReadsC Z R en f F (body s)) : Reads Z R en (f + 1) F s := by
  intro k ts O w hw hO hg
  simp only [runC] at hg
  have e : P en (f + 1) s ts = runC en (P en f) (body s) ts := rfl
  have hne : P en (f + 1) s ts ≠ .out := by
    intro q; rw [q] at hg; exact hO hg.symm
  rw [e] at hne
  refine (h ts _ w hw hne rfl).mono ?_
  rintro e' w' ⟨hb, ⟨v, x, r, he, hx, hs, hr⟩ | ⟨c, p, he, hG⟩⟩
  · refine ⟨hb, Or.inl ⟨v, x, r, he, hx, hs, ?_⟩⟩
    rw [e, hr] at hg; exact hg
  · refine ⟨hb, Or.inr ⟨c, p, he, ?_⟩⟩
    rcases hG with ⟨hc, r, hr, hp⟩ | ⟨hc, hr⟩
    · rw [e, hr] at hg; exact Or.inl ⟨hc, r, hg.symm, hp⟩
    · rw [e, hr] at hg; exact Or.inr ⟨hc, hg.symm⟩
theorem gone_ok {en : Nat} {x : Ex} {r : List Tok} {c p : Nat} (h : Gone en (.ok x r) c p) : False := by
  rcases h with ⟨_, _, h, _⟩ | ⟨_, h⟩ <;> cases h
/-- What comes of a part, told ahead. -/
theorem Reads.split {Z R en f F : Nat} {s : Sym} (h : Reads Z R en f F s) {k : Ex → Cmd} {ts : List Tok} {O : Out} (hO : O ≠ .out) (hg : runC en (P en f) (.call s k) ts = O) :
    (∃ x r, Hid (∀ W, St Z R en W ts → Calls Tryd.prog F #[.pointer (some ⟨R, 0, none⟩)] W fun e w' => But R W w' ∧ ∃ v, e = .returned v ∧ ExV W.heap.size w' v x ∧ St Z R en w' r) ∧ runC en (P en f) (k x) r = O) ∨
    (∃ c p : Nat, Gone en O c p ∧ Hid (∀ W, St Z R en W ts → Calls Tryd.prog F #[.pointer (some ⟨R, 0, none⟩)] W fun e w' => But R W w' ∧ e = .panicked [{ v := .iface 48 (.agg #[.int .i64 c, .int .i64 p]), recovered := false }])) := by
  cases e : P en f s ts with
  | ok x r =>
    left
    simp only [runC, e] at hg
    refine ⟨x, r, fun W hW => ?_, hg⟩
    refine (h .ret ts (.ok x r) W hW (by intro q; cases q) (by simp only [runC, e])).mono ?_
    rintro e' w' ⟨hb, ⟨v, y, q, he, hx, hs, hr⟩ | ⟨c, p, he, hG⟩⟩
    · simp only [runC, Out.ok.injEq] at hr
      obtain ⟨rfl, rfl⟩ := hr
      exact ⟨hb, v, he, hx, hs⟩
    · exact (gone_ok hG).elim
  | no r =>
    right
    simp only [runC, e] at hg
    refine ⟨11, place en r, Or.inl ⟨rfl, r, hg.symm, rfl⟩, fun W hW => ?_⟩
    refine (h .ret ts (.no r) W hW (by intro q; cases q) (by simp only [runC, e])).mono ?_
    rintro e' w' ⟨hb, ⟨v, y, q, he, hx, hs, hr⟩ | ⟨c, p, he, hG⟩⟩
    · cases hr
    · rcases hG with ⟨rfl, r', hr, rfl⟩ | ⟨_, hr⟩
      · cases hr; exact ⟨hb, he⟩
      · cases hr
  | lim q =>
    right
    simp only [runC, e] at hg
    refine ⟨15, q, Or.inr ⟨rfl, hg.symm⟩, fun W hW => ?_⟩
    refine (h .ret ts (.lim q) W hW (by intro q; cases q) (by simp only [runC, e])).mono ?_
    rintro e' w' ⟨hb, ⟨v, y, q, he, hx, hs, hr⟩ | ⟨c, p, he, hG⟩⟩
    · cases hr
    · rcases hG with ⟨_, r', hr, _⟩ | ⟨rfl, hr⟩
      · cases hr
      · cases hr; exact ⟨hb, he⟩
  | out => simp only [runC, e] at hg; exact absurd hg.symm hO
/-- A name that has to stand there, told ahead. -/
theorem name_split {Z R en : Nat} {Rr : Sym → List Tok → Out} {k : List UInt8 → Cmd} {ts : List Tok} {O : Out} (hg : runC en Rr (nameC' k) ts = O) :
    (∃ (t : Tok) (r : List Tok), Hid (∀ W, St Z R en W ts → Calls Tryd.prog 33 #[.pointer (some ⟨R, 0, none⟩)] W fun e w' => But R W w' ∧ e = .returned (.string ⟨t.text.toArray⟩) ∧ St Z R en w' r) ∧ runC en Rr (k t.text) r = O) ∨
    (∃ c p : Nat, Gone en O c p ∧ Hid (∀ W, St Z R en W ts → Calls Tryd.prog 33 #[.pointer (some ⟨R, 0, none⟩)] W fun e w' => But R W w' ∧ e = .panicked [{ v := .iface 48 (.agg #[.int .i64 c, .int .i64 p]), recovered := false }])) := by
  cases c : hd (isK 1) ts with
  | true =>
    cases ts with
    | nil => cases c
    | cons t r =>
      left
      refine ⟨t, r, fun W hW => ?_, by rw [← hg]; simp [nameC', kindC, runC, c]⟩
      refine (name_step (Rr := Rr) (k := fun n => .ret (.mk 0 n [] 0 0 [])) (O := .ok (.mk 0 t.text [] 0 0 []) r) W hW (by simp [nameC', kindC, runC, c])).mono ?_
      rintro e' w' ⟨hb, ⟨u, q, he, hs, hr⟩ | ⟨c, p, he, hG⟩⟩
      · simp only [runC, Out.ok.injEq, Ex.mk.injEq] at hr
        obtain ⟨⟨_, hu, _⟩, rfl⟩ := hr
        rw [hu] at he
        exact ⟨hb, he, hs⟩
      · exact (gone_ok hG).elim
  | false =>
    right
    refine ⟨11, place en ts, Or.inl ⟨rfl, ts, by rw [← hg]; simp [nameC', kindC, runC, c], rfl⟩, fun W hW => ?_⟩
    refine (name_step (Rr := Rr) (k := fun n => .ret (.mk 0 n [] 0 0 [])) (O := .no ts) W hW (by simp [nameC', kindC, runC, c])).mono ?_
    rintro e' w' ⟨hb, ⟨u, q, he, hs, hr⟩ | ⟨c, p, he, hG⟩⟩
    · cases hr
    · rcases hG with ⟨rfl, r', hr, rfl⟩ | ⟨_, hr⟩
      · cases hr; exact ⟨hb, he⟩
      · cases hr
end Go.Proofs.YtlkidgilhlpjhaaDoor
