/-
  The walks of the reader's tests and takings: what each does to a reader's tree of tests.
-/
import Derived.Test.YtlkidgilhlpjhaaDoorHA
namespace Go.Proofs.YtlkidgilhlpjhaaDoor
open Go.RowKit

theorem St.to {Z R en : Nat} {w w' : World} {ts : List Tok} (h : St Z R en w ts) (hb : Below w.heap.size w w') : St Z R en w' ts := h.below (hb.mono h.size)
theorem But.of {R : Nat} {w w' : World} (hb : Below w.heap.size w w') : But R w w' := (But.refl R w).below hb
theorem ba {w w1 : World} {o : Obj} (h : Below w.heap.size w w1) : Below w.heap.size w (w1.alloc o) := h.alloc h.size o
theorem bl2 {w w1 w2 : World} (h1 : Below w.heap.size w w1) (h2 : Below w1.heap.size w1 w2) : Below w.heap.size w w2 := h1.trans (h2.mono h1.size)

/-- The four cells of a block that was there. -/
theorem keep4 {R : Nat} {W w1 : World} (hb : But R W w1) (b : Nat) (hne : b ≠ R) (x y u v : Value) (h : b < W.heap.size) (hx : W.cell? ⟨b, 0, none⟩ = some x) (hy : W.cell? ⟨b, 1, none⟩ = some y) (hu : W.cell? ⟨b, 2, none⟩ = some u) (hv : W.cell? ⟨b, 3, none⟩ = some v) (hf : ∀ o, W.frozen? ⟨b, o, none⟩ = false) :
    (w1.cell? ⟨b, 0, none⟩ = some x ∧ w1.cell? ⟨b, 1, none⟩ = some y ∧ w1.cell? ⟨b, 2, none⟩ = some u ∧ w1.cell? ⟨b, 3, none⟩ = some v) ∧ (∀ o, w1.frozen? ⟨b, o, none⟩ = false) ∧ b < w1.heap.size := by
  have e := hb.block b h hne
  refine ⟨⟨(cell_of_block e).trans hx, (cell_of_block e).trans hy, (cell_of_block e).trans hu, (cell_of_block e).trans hv⟩, fun o => ?_, Nat.lt_of_lt_of_le h hb.size⟩
  have := hf o
  simp only [World.frozen?] at this ⊢
  rw [e]; exact this

theorem fld0 (a b c d : Value) (w : World) : Sem.run Tryd.prog (Instr.field 29 (.agg #[a, b, c, d]) 0) w = .ok a w := by kernel_rfl
theorem fld1 (a b c d : Value) (w : World) : Sem.run Tryd.prog (Instr.field 29 (.agg #[a, b, c, d]) 1) w = .ok b w := by kernel_rfl
theorem fld2 (a b c d : Value) (w : World) : Sem.run Tryd.prog (Instr.field 29 (.agg #[a, b, c, d]) 2) w = .ok c w := by kernel_rfl
theorem fld3 (a b c d : Value) (w : World) : Sem.run Tryd.prog (Instr.field 29 (.agg #[a, b, c, d]) 3) w = .ok d w := by kernel_rfl

set_option maxHeartbeats 4000000 in
theorem sees_any (Z R en : Nat) (ts : List Tok) (s : ByteArray) (hs : s.data.toList ≠ []) (w : World) (h : St Z R en w ts) :
    Calls Tryd.prog 24 #[.pointer (some ⟨R, 0, none⟩), .string s] w fun e w' => e = .returned (.bool (hd (isT s.data.toList) ts)) ∧ Below w.heap.size w w' := by
  have HP : Hid (Calls Tryd.prog 21 #[.pointer (some ⟨R, 0, none⟩)] w fun e w' => e = .returned (.agg #[.int .i64 (nextT en ts).kind, .string ⟨(nextT en ts).text.toArray⟩, .int .i64 (nextT en ts).val, .int .i64 (nextT en ts).pos]) ∧ Below w.heap.size w w') := peek_any Z R en ts w h
  have E : Hid (hd (isT s.data.toList) ts = ((nextT en ts).text == s.data.toList)) := (next_is hs ts).symm
  clear h hs
  generalize nextT en ts = t at *
  have F1 := fld1
  go_enter Tryd.func24, Tryd.ntmps24
  go_wp2_with (go_at_call 21; refine HP.out.mono ?_; rintro e w1 ⟨rfl, hb1⟩)
  go_ret
  exact ⟨ret_bool (by rw [E.out, Lib.toList_data]), hb1⟩

/-- The reader gives up. -/
theorem stop_any (Z R en : Nat) (ts : List Tok) (w : World) (h : St Z R en w ts) :
    Calls Tryd.prog 46 #[.pointer (some ⟨R, 0, none⟩)] w fun e w' => e = .panicked [{ v := .iface 48 (.agg #[.int .i64 11, .int .i64 (place en ts : Nat)]), recovered := false }] ∧ Below w.heap.size w w' := by
  have HP : Hid (Calls Tryd.prog 21 #[.pointer (some ⟨R, 0, none⟩)] w fun e w' => e = .returned (.agg #[.int .i64 (nextT en ts).kind, .string ⟨(nextT en ts).text.toArray⟩, .int .i64 (nextT en ts).val, .int .i64 (nextT en ts).pos]) ∧ Below w.heap.size w w') := peek_any Z R en ts w h
  have E : Hid ((nextT en ts).pos = place en ts) := next_pos en ts
  clear h
  generalize nextT en ts = t at *
  generalize place en ts = p at *
  have F3 := fld3
  go_enter Tryd.func46, Tryd.ntmps46
  go_wp2_with (go_at_call 21; refine HP.out.mono ?_; rintro e w1 ⟨rfl, hb1⟩)
  refine ⟨rfl, ?_, hb1⟩
  rw [E.out]

set_option maxHeartbeats 4000000 in
theorem seesSecond_any (Z R en : Nat) (ts : List Tok) (s : ByteArray) (w : World) (h : St Z R en w ts) :
    Calls Tryd.prog 55 #[.pointer (some ⟨R, 0, none⟩), .string s] w fun e w' => e = .returned (.bool (hd (isT s.data.toList) ts.tail)) ∧ Below w.heap.size w w' := by
  obtain ⟨hz, hrz, _, a, cap, hr, hc, _, hl, ht⟩ := h
  obtain ⟨c0, c1, f0, f1, lr⟩ := new2 hr
  clear hr
  cases ts with
  | nil =>
    have E : ¬ (1 : Int) < ((([] : List Tok).length : Nat) : Int) := by simp
    generalize ([] : List Tok).length = n at *
    go_enter Tryd.func55, Tryd.ntmps55
    go_wp2
    go_ret
    exact ⟨rfl, Below.refl _ _⟩
  | cons u us => cases us with
    | nil =>
      have E : ¬ (1 : Int) < ((([u] : List Tok).length : Nat) : Int) := by simp
      generalize ([u] : List Tok).length = n at *
      go_enter Tryd.func55, Tryd.ntmps55
      go_wp2
      go_ret
      exact ⟨rfl, Below.refl _ _⟩
    | cons t r =>
      rcases ht with ht | ⟨b, off, rfl, hne, hbz, ht⟩
      · cases ht
      obtain ⟨t0, t1, t2, t3⟩ := ht 1 t rfl
      clear ht
      rw [show off + 1 * 4 = off + 4 by omega] at t0 t1 t2 t3
      have E1 : (1 : Int) < ((u :: t :: r).length : Int) := by simp; omega
      have hb : b < w.heap.size := by omega
      generalize (u :: t :: r).length = n at *
      go_enter Tryd.func55, Tryd.ntmps55
      go_wp2
      go_ret
      exact ⟨ret_bool (by rw [Lib.toList_data]; rfl), Below.refl _ _⟩

section
variable {Z R en : Nat} {Rr : Sym → List Tok → Out} {O : Out}
set_option maxHeartbeats 4000000 in
/-- A test with a taking. -/
theorem may_step {a b : Cmd} {ts : List Tok} (s : ByteArray) (hs : s.data.toList ≠ []) (w : World) (h : St Z R en w ts) (hg : runC en Rr (mayC s.data.toList a b) ts = O) :
    Calls Tryd.prog 45 #[.pointer (some ⟨R, 0, none⟩), .string s] w fun e w' => But R w w' ∧ ((e = .returned (.bool true) ∧ ∃ r, St Z R en w' r ∧ runC en Rr a r = O) ∨ (e = .returned (.bool false) ∧ St Z R en w' ts ∧ runC en Rr b ts = O)) := by
  have HS : Hid (Calls Tryd.prog 24 #[.pointer (some ⟨R, 0, none⟩), .string s] w fun e w' => e = .returned (.bool (hd (isT s.data.toList) ts)) ∧ Below w.heap.size w w') := sees_any Z R en ts s hs w h
  cases c : hd (isT s.data.toList) ts
  · have G : Hid (runC en Rr b ts = O) := by show _ = _; rw [← hg]; simp [mayC, runC, c]
    rw [c] at HS
    have H := Hid.intro h
    clear hg c h
    go_enter Tryd.func45, Tryd.ntmps45
    go_wp2_with (go_at_call 24; refine HS.out.mono ?_; rintro e w1 ⟨rfl, hb1⟩)
    go_ret
    exact ⟨But.of hb1, Or.inr ⟨rfl, H.out.to hb1, G.out⟩⟩
  · cases ts with
    | nil => cases c
    | cons t r =>
      have G : Hid (runC en Rr a r = O) := by show _ = _; rw [← hg]; simp [mayC, runC, c]
      rw [c] at HS
      have H := Hid.intro h
      clear hg c h
      go_enter Tryd.func45, Tryd.ntmps45
      go_wp2_with (first | (go_at_call 24; refine HS.out.mono ?_; rintro e w1 ⟨rfl, hb1⟩) | (go_at_call 32; refine (take_any Z R en t r _ (H.out.to hb1)).mono ?_; rintro e w2 ⟨rfl, h2, hb2⟩; unfold tkV))
      go_ret
      exact ⟨(But.of hb1).trans hb2, Or.inl ⟨rfl, r, h2, G.out⟩⟩

set_option maxHeartbeats 4000000 in
/-- A word that has to stand there. -/
theorem must_step {k : Tok → Cmd} {ts : List Tok} (s : ByteArray) (hs : s.data.toList ≠ []) (w : World) (h : St Z R en w ts) (hg : runC en Rr (mustC s.data.toList k) ts = O) :
    Calls Tryd.prog 36 #[.pointer (some ⟨R, 0, none⟩), .string s] w fun e w' => But R w w' ∧ ((∃ t r, e = .returned (.agg #[.int .i64 (t).kind, .string ⟨(t).text.toArray⟩, .int .i64 (t).val, .int .i64 (t).pos]) ∧ St Z R en w' r ∧ runC en Rr (k t) r = O) ∨ (∃ c p : Nat, e = .panicked [{ v := .iface 48 (.agg #[.int .i64 c, .int .i64 p]), recovered := false }] ∧ Gone en O c p)) := by
  have HS : Hid (∀ W, Below w.heap.size w W → Calls Tryd.prog 24 #[.pointer (some ⟨R, 0, none⟩), .string s] W fun e w' => e = .returned (.bool (hd (isT s.data.toList) ts)) ∧ Below W.heap.size W w') := fun W hW => sees_any Z R en ts s hs W (h.to hW)
  cases c : hd (isT s.data.toList) ts
  · have G : Hid (Gone en O 11 (place en ts)) := Or.inl ⟨rfl, ts, by rw [← hg]; simp [mustC, runC, c], rfl⟩
    rw [c] at HS
    have H := Hid.intro h
    clear hg c h
    go_enter Tryd.func36, Tryd.ntmps36
    go_wp2_with (first | (go_at_call 24; refine (HS.out _ (ba (Below.refl _ _))).mono ?_; rintro e w1 ⟨rfl, hb1⟩) | (go_at_call 46; refine (stop_any Z R en ts _ (H.out.to (bl2 (ba (Below.refl _ _)) hb1))).mono ?_; rintro e w2 ⟨rfl, hb2⟩))
    exact ⟨rfl, But.of (bl2 (bl2 (ba (Below.refl _ _)) hb1) hb2), Or.inr ⟨11, _, rfl, G.out⟩⟩
  · cases ts with
    | nil => cases c
    | cons t r =>
      have G : Hid (runC en Rr (k t) r = O) := by show _ = _; rw [← hg]; simp [mustC, runC, c]
      rw [c] at HS
      have H := Hid.intro h
      have lr : Z ≤ w.heap.size ∧ R < Z := ⟨h.size, h.rz⟩
      clear hg c h
      go_enter Tryd.func36, Tryd.ntmps36
      go_wp2_with (first | (go_at_call 24; refine (HS.out _ (ba (Below.refl _ _))).mono ?_; rintro e w1 ⟨rfl, hb1⟩) | (go_at_call 32; refine (take_any Z R en t r _ (H.out.to (bl2 (ba (Below.refl _ _)) hb1))).mono ?_; rintro e w2 ⟨rfl, h2, hb2⟩; unfold tkV; obtain ⟨⟨z0, z1, z2, z3⟩, zf, zl⟩ := keep4 ((But.of (R := R) hb1).trans hb2) w.heap.size (by omega) (.int .i64 0) (.string ⟨#[]⟩) (.int .i64 0) (.int .i64 0) (by simp) (by go_simp) (by go_simp) (by go_simp) (by go_simp) (by go_simp); have zf0 := zf 0; have zf1 := zf 1; have zf2 := zf 2; have zf3 := zf 3))
      refine bodyPost_ret (v := .agg #[.int .i64 (t).kind, .string ⟨(t).text.toArray⟩, .int .i64 (t).val, .int .i64 (t).pos]) (by simp [results, Tryd.results36, go_sem, World.cell?_setCell_other, z0, z1, z2, z3]) rfl ⟨?_, Or.inl ⟨t, r, rfl, ?_, G.out⟩⟩
      · exact ((((((But.of (ba (Below.refl _ _))).below hb1).trans hb2).setCell (Or.inl (Nat.le_refl _)) _).setCell (Or.inl (Nat.le_refl _)) _).setCell (Or.inl (Nat.le_refl _)) _).setCell (Or.inl (Nat.le_refl _)) _
      · exact h2.below (((((Below.refl _ _).setCell lr.1 _).setCell lr.1 _).setCell lr.1 _).setCell lr.1 _)

set_option maxHeartbeats 4000000 in
/-- A word of a kind that has to stand there. -/
theorem kind_step {k : Tok → Cmd} {ts : List Tok} (n : Nat) (hn : n ≠ 0) (w : World) (h : St Z R en w ts) (hg : runC en Rr (kindC n k) ts = O) :
    Calls Tryd.prog 44 #[.pointer (some ⟨R, 0, none⟩), .int .i64 (n : Int)] w fun e w' => But R w w' ∧ ((∃ t r, e = .returned (.agg #[.int .i64 (t).kind, .string ⟨(t).text.toArray⟩, .int .i64 (t).val, .int .i64 (t).pos]) ∧ St Z R en w' r ∧ t.val ≤ 999999999 ∧ runC en Rr (k t) r = O) ∨ (∃ c p : Nat, e = .panicked [{ v := .iface 48 (.agg #[.int .i64 c, .int .i64 p]), recovered := false }] ∧ Gone en O c p)) := by
  have HP : Hid (∀ W, Below w.heap.size w W → Calls Tryd.prog 21 #[.pointer (some ⟨R, 0, none⟩)] W fun e w' => e = .returned (.agg #[.int .i64 (nextT en ts).kind, .string ⟨(nextT en ts).text.toArray⟩, .int .i64 (nextT en ts).val, .int .i64 (nextT en ts).pos]) ∧ Below W.heap.size W w') := fun W hW => peek_any Z R en ts W (h.to hW)
  have E : ((nextT en ts).kind == n) = hd (isK n) ts := next_kind hn ts
  have F0 := fld0
  cases c : hd (isK n) ts
  · have G : Hid (Gone en O 11 (place en ts)) := Or.inl ⟨rfl, ts, by rw [← hg]; simp [kindC, runC, c], rfl⟩
    rw [c] at E
    have H := Hid.intro h
    clear hg c h
    have E2 : (((nextT en ts).kind : Int) == (n : Int)) = false := by rw [beq_eq_false_iff_ne] at *; omega
    clear E
    generalize nextT en ts = t at *
    go_enter Tryd.func44, Tryd.ntmps44
    go_wp2_with (first | (go_at_call 21; refine (HP.out _ (ba (Below.refl _ _))).mono ?_; rintro e w1 ⟨rfl, hb1⟩) | (go_at_call 46; refine (stop_any Z R en ts _ (H.out.to (bl2 (ba (Below.refl _ _)) hb1))).mono ?_; rintro e w2 ⟨rfl, hb2⟩))
    exact ⟨rfl, But.of (bl2 (bl2 (ba (Below.refl _ _)) hb1) hb2), Or.inr ⟨11, _, rfl, G.out⟩⟩
  · cases ts with
    | nil => cases c
    | cons t r =>
      have G : Hid (runC en Rr (k t) r = O) := by show _ = _; rw [← hg]; simp [kindC, runC, c]
      rw [c] at E
      have H := Hid.intro h
      have hv : t.val ≤ 999999999 := h.fine t (List.mem_cons_self ..)
      have lr : Z ≤ w.heap.size ∧ R < Z := ⟨h.size, h.rz⟩
      clear hg c h
      have E2 : (((nextT en (t :: r)).kind : Int) == (n : Int)) = true := by rw [beq_iff_eq] at *; omega
      clear E
      generalize nextT en (t :: r) = u at *
      go_enter Tryd.func44, Tryd.ntmps44
      go_wp2_with (first | (go_at_call 21; refine (HP.out _ (ba (Below.refl _ _))).mono ?_; rintro e w1 ⟨rfl, hb1⟩) | (go_at_call 32; refine (take_any Z R en t r _ (H.out.to (bl2 (ba (Below.refl _ _)) hb1))).mono ?_; rintro e w2 ⟨rfl, h2, hb2⟩; unfold tkV; obtain ⟨⟨z0, z1, z2, z3⟩, zf, zl⟩ := keep4 ((But.of (R := R) hb1).trans hb2) w.heap.size (by omega) (.int .i64 0) (.string ⟨#[]⟩) (.int .i64 0) (.int .i64 0) (by simp) (by go_simp) (by go_simp) (by go_simp) (by go_simp) (by go_simp); have zf0 := zf 0; have zf1 := zf 1; have zf2 := zf 2; have zf3 := zf 3))
      refine bodyPost_ret (v := .agg #[.int .i64 (t).kind, .string ⟨(t).text.toArray⟩, .int .i64 (t).val, .int .i64 (t).pos]) (by simp [results, Tryd.results44, go_sem, World.cell?_setCell_other, z0, z1, z2, z3]) rfl ⟨?_, Or.inl ⟨t, r, rfl, ?_, hv, G.out⟩⟩
      · exact ((((((But.of (ba (Below.refl _ _))).below hb1).trans hb2).setCell (Or.inl (Nat.le_refl _)) _).setCell (Or.inl (Nat.le_refl _)) _).setCell (Or.inl (Nat.le_refl _)) _).setCell (Or.inl (Nat.le_refl _)) _
      · exact h2.below (((((Below.refl _ _).setCell lr.1 _).setCell lr.1 _).setCell lr.1 _).setCell lr.1 _)

set_option maxHeartbeats 4000000 in
/-- A name that has to stand there. -/
theorem name_step {k : List UInt8 → Cmd} {ts : List Tok} (w : World) (h : St Z R en w ts) (hg : runC en Rr (nameC' k) ts = O) :
    Calls Tryd.prog 33 #[.pointer (some ⟨R, 0, none⟩)] w fun e w' => But R w w' ∧ ((∃ (t : Tok) (r : List Tok), e = .returned (.string ⟨t.text.toArray⟩) ∧ St Z R en w' r ∧ runC en Rr (k t.text) r = O) ∨ (∃ c p : Nat, e = .panicked [{ v := .iface 48 (.agg #[.int .i64 c, .int .i64 p]), recovered := false }] ∧ Gone en O c p)) := by
  have HK : Hid (Calls Tryd.prog 44 #[.pointer (some ⟨R, 0, none⟩), .int .i64 1] w _) := Hid.intro (kind_step 1 (by omega) w h hg)
  have F1 := fld1
  clear h hg
  go_enter Tryd.func33, Tryd.ntmps33
  go_wp2_with fail
  refine HK.out.mono ?_
  rintro e w1 ⟨hb1, ⟨t, r, rfl, h1, -, hg1⟩ | ⟨c, p, rfl, hG⟩⟩
  · have HB := Hid.intro hb1
    have H1 := Hid.intro h1
    have G1 := Hid.intro hg1
    clear hb1 h1 hg1
    go_wp2
    go_ret
    exact ⟨HB.out, Or.inl ⟨t, r, rfl, H1.out, G1.out⟩⟩
  · exact ⟨rfl, hb1, Or.inr ⟨c, p, rfl, hG⟩⟩

set_option maxHeartbeats 4000000 in
/-- A number that has to stand there. -/
theorem number_step {k : Tok → Cmd} {ts : List Tok} (w : World) (h : St Z R en w ts) (hg : runC en Rr (kindC 3 k) ts = O) :
    Calls Tryd.prog 35 #[.pointer (some ⟨R, 0, none⟩)] w fun e w' => But R w w' ∧ ((∃ t r, e = .returned (.agg #[.int .i64 (t).kind, .string ⟨(t).text.toArray⟩, .int .i64 (t).val, .int .i64 (t).pos]) ∧ St Z R en w' r ∧ t.val ≤ 999999999 ∧ runC en Rr (k t) r = O) ∨ (∃ c p : Nat, e = .panicked [{ v := .iface 48 (.agg #[.int .i64 c, .int .i64 p]), recovered := false }] ∧ Gone en O c p)) := by
  have HK : Hid (∀ W, Below w.heap.size w W → Calls Tryd.prog 44 #[.pointer (some ⟨R, 0, none⟩), .int .i64 3] W _) := Hid.intro (fun W (hW : Below w.heap.size w W) => kind_step 3 (by omega) W (h.to hW) hg)
  have lr : Z ≤ w.heap.size ∧ R < Z := ⟨h.size, h.rz⟩
  clear h hg
  go_enter Tryd.func35, Tryd.ntmps35
  go_wp2_with fail
  refine (HK.out _ (ba (Below.refl _ _))).mono ?_
  rintro e w1 ⟨hb1, ⟨t, r, rfl, h1, hv, hg1⟩ | ⟨c, p, rfl, hG⟩⟩
  · obtain ⟨⟨z0, z1, z2, z3⟩, zf, zl⟩ := keep4 hb1 w.heap.size (by omega) (.int .i64 0) (.string ⟨#[]⟩) (.int .i64 0) (.int .i64 0) (by simp) (by go_simp) (by go_simp) (by go_simp) (by go_simp) (by go_simp)
    have zf0 := zf 0; have zf1 := zf 1; have zf2 := zf 2; have zf3 := zf 3
    have HB := Hid.intro hb1
    have H1 := Hid.intro h1
    have G1 := Hid.intro hg1
    clear hb1 h1 hg1
    go_wp2
    refine bodyPost_ret (v := .agg #[.int .i64 (t).kind, .string ⟨(t).text.toArray⟩, .int .i64 (t).val, .int .i64 (t).pos]) (by simp [results, Tryd.results35, go_sem, World.cell?_setCell_other, z0, z1, z2, z3]) rfl ⟨?_, Or.inl ⟨t, r, rfl, ?_, hv, G1.out⟩⟩
    · exact ((((((But.of (ba (Below.refl _ _))).trans HB.out).setCell (Or.inl (Nat.le_refl _)) _).setCell (Or.inl (Nat.le_refl _)) _).setCell (Or.inl (Nat.le_refl _)) _).setCell (Or.inl (Nat.le_refl _)) _)
    · exact H1.out.below (((((Below.refl _ _).setCell lr.1 _).setCell lr.1 _).setCell lr.1 _).setCell lr.1 _)
  · exact ⟨rfl, (But.of (ba (Below.refl _ _))).trans hb1, Or.inr ⟨c, p, rfl, hG⟩⟩
end
end Go.Proofs.YtlkidgilhlpjhaaDoor
