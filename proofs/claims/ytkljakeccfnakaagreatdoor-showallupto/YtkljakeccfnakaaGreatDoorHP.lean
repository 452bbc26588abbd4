/-
  The walk of Deep.
-/
import Derived.Test.YtkljakeccfnakaaGreatDoorHabc
namespace Go.Proofs.YtkljakeccfnakaaGreatDoor
open Go.RowKit

mutual
def szE : Ex → Nat
  | .mk _ _ _ _ _ l => szL l + 1
def szL : List Ex → Nat
  | [] => 0
  | e :: r => szE e + szL r
end
theorem szL_mem : ∀ (l : List Ex) (j : Nat) (x : Ex), l[j]? = some x → szE x ≤ szL l := by
  intro l
  induction l with
  | nil => intro j x h; simp at h
  | cons a r ih =>
    intro j x h
    cases j with
    | zero => simp only [List.getElem?_cons_zero, Option.some.injEq] at h; subst h; simp only [szL]; omega
    | succ j => simp only [List.getElem?_cons_succ] at h; have := ih j x h; simp only [szL]; omega
theorem deepL_mem : ∀ (l : List Ex) (j : Nat) (x : Ex), l[j]? = some x → deepE x ≤ deepL l := by
  intro l
  induction l with
  | nil => intro j x h; simp at h
  | cons a r ih =>
    intro j x h
    cases j with
    | zero => simp only [List.getElem?_cons_zero, Option.some.injEq] at h; subst h; simp only [deepL]; omega
    | succ j => simp only [List.getElem?_cons_succ] at h; have := ih j x h; simp only [deepL]; omega
theorem deepL_add : ∀ (l : List Ex) (x : Ex), deepL (l ++ [x]) = max (deepL l) (deepE x) := by
  intro l x
  induction l with
  | nil => simp [deepL]
  | cons a r ih => rw [List.cons_append, deepL, ih, deepL]; omega
/-- A kid, in memory. -/
theorem kid_at {lo : Nat} {w : World} {v : Value} {x y : Ex} {j : Nat} (h : ExV lo w v x) (hy : x.kids[j]? = some y) :
    ∃ (b off cap : Nat) (nn : Int) (tx ox : ByteArray) (a : Option Addr) (ln cp : Nat),
      v = exV x.kind x.text x.other x.n x.pl (.slice (some ⟨b, off, none⟩) x.kids.length cap) ∧ x.kids.length ≤ cap ∧ lo ≤ b ∧ b < w.heap.size ∧
      (w.cell? ⟨b, off + j * 6, none⟩ = some (.int .i64 (y.kind : Int)) ∧ w.cell? ⟨b, off + j * 6 + 1, none⟩ = some (.string tx) ∧ w.cell? ⟨b, off + j * 6 + 2, none⟩ = some (.string ox) ∧ w.cell? ⟨b, off + j * 6 + 3, none⟩ = some (.int .i64 nn) ∧ w.cell? ⟨b, off + j * 6 + 4, none⟩ = some (.int .i64 (y.pl : Int)) ∧ w.cell? ⟨b, off + j * 6 + 5, none⟩ = some (.slice a ln cp)) ∧
      ExV lo w (.agg #[.int .i64 (y.kind : Int), .string tx, .string ox, .int .i64 nn, .int .i64 (y.pl : Int), .slice a ln cp]) y := by
  cases h with
  | leaf k t o n p => simp [Ex.kids] at hy
  | node k t o n p b off cap kids vs hlo hb hcap hc hk =>
    have hj : j < kids.length := (List.getElem?_eq_some_iff.1 hy).1
    have hx := hk j y hy
    have c := hc j hj
    obtain ⟨nn, tx, ox, a, ln, cp, e, -⟩ := hx.form2
    rw [e] at hx c
    refine ⟨b, off, cap, nn, tx, ox, a, ln, cp, rfl, hcap.1, hlo, hb, ⟨?_, ?_, ?_, ?_, ?_, ?_⟩, hx⟩
    · exact c 0 (by omega)
    · exact c 1 (by omega)
    · exact c 2 (by omega)
    · exact c 3 (by omega)
    · exact c 4 (by omega)
    · exact c 5 (by omega)
theorem kids_len {lo : Nat} {w : World} {v : Value} {x : Ex} (h : ExV lo w v x) : x.kids.length ≤ 1000000 := by
  cases h with
  | leaf k t o n p => simp [Ex.kids]
  | node k t o n p b off cap kids vs hlo hb hcap hc hk => exact hcap.2
theorem take_add {l : List Ex} {i : Nat} {y : Ex} (h : l[i]? = some y) : l.take (i + 1) = l.take i ++ [y] := by rw [List.take_add_one, h]; rfl

set_option maxHeartbeats 4000000 in
theorem deep_any (N : Nat) : ∀ (x : Ex) (v : Value) (lo : Nat) (w : World), szE x ≤ N → ExV lo w v x → deepE x ≤ 1000000 →
    Calls Tryz.prog 108 #[v] w fun e w' => e = .returned (.int .i64 (deepE x : Nat)) ∧ Below w.heap.size w w' := by
  induction N with
  | zero => intro x v lo w h; cases x; simp [szE] at h
  | succ N ih =>
    intro x v lo w hN hx hd
    have hlen := kids_len hx
    have HX : Hid (ExV lo w v x) := hx
    have hd2 : deepL x.kids + 1 ≤ 1000000 := by cases x; simp only [deepE] at hd; exact hd
    have IH : Hid (∀ (j : Nat) (y : Ex) (u : Value) (W : World), x.kids[j]? = some y → Kept lo w W → ExV lo w u y → Calls Tryz.prog 108 #[u] W fun e w' => e = .returned (.int .i64 (deepE y : Nat)) ∧ Below W.heap.size W w') := fun j y u W hj hK hu =>
      ih y u lo W (by have := szL_mem _ j y hj; cases x; simp only [szE, Ex.kids] at *; omega) (hu.keep hK) (by have := deepL_mem _ j y hj; omega)
    have hform : ∃ (a : Option Addr) (cap : Nat), v = exV x.kind x.text x.other x.n x.pl (.slice a x.kids.length cap) ∧ (x.kids = [] ∨ ∃ b off, a = some ⟨b, off, none⟩) := by
      cases hx with
      | leaf k t o n p => exact ⟨none, 0, rfl, Or.inl rfl⟩
      | node k t o n p b off cap kids vs => exact ⟨_, cap, rfl, Or.inr ⟨b, off, rfl⟩⟩
    obtain ⟨a, cap, rfl, hab⟩ := hform
    unfold exV at *
    have hab2 : x.kids.length = 0 ∨ ∃ b off, a = some ⟨b, off, none⟩ := hab.imp (fun h => by rw [h]; rfl) id
    clear hx hN hd hab
    have E : Hid (deepE x = deepL x.kids + 1) := by cases x; rfl
    generalize hn : x.kids.length = n at *
    have HN : Hid (x.kids.length = n) := hn
    clear hn
    rcases hab2 with h0 | ⟨b, off, rfl⟩
    · subst h0
      have F : Hid (deepL x.kids = 0) := by show _ = _; rw [List.eq_nil_of_length_eq_zero HN.out]; rfl
      go_enter Tryz.func108, Tryz.ntmps108
      go_wp2
      go_loopw [3, 9] (fun t u wr => u = .int .i64 0 ∧ t = .int .i64 0 ∧ Below w.heap.size w wr) (fun _ _ _ => 0)
      case atStart => exact ⟨rfl, rfl, (Below.refl _ _).alloc (Nat.le_refl _) _⟩
      case round =>
        obtain ⟨rfl, rfl, hb⟩ := hrel
        go_wp2_with fail
        go_ret
        exact ⟨ret_int (by rw [E.out, F.out]; rfl), hb⟩
    go_enter Tryz.func108, Tryz.ntmps108
    go_wp2
    go_loopw [3, 9] (fun t u wr => ∃ (i q : Nat), i ≤ n ∧ q ≤ 1000000 ∧ u = .int .i64 i ∧ t = .int .i64 q ∧ Hid (q = deepL (x.kids.take i)) ∧ Below w.heap.size w wr) (fun _ u _ => n - (intOf u).toNat)
    case atStart => exact ⟨0, 0, Nat.zero_le _, Nat.zero_le _, rfl, rfl, by simp [deepL, Hid], (Below.refl _ _).alloc (Nat.le_refl _) _⟩
    case round =>
      obtain ⟨i, q, hi, hq, rfl, rfl, hs, hb⟩ := hrel
      by_cases c : i < n
      · have c' : (i : Int) < (n : Int) := by omega
        obtain ⟨y, hy⟩ : ∃ y, x.kids[i]? = some y := ⟨_, List.getElem?_eq_getElem (by have := HN.out; omega)⟩
        obtain ⟨b2, off2, cap2, nn, tx, ox, ka, ln, cp, ev, hcap, _, hbl, ⟨k0, k1, k2, k3, k4, k5⟩, hky⟩ := kid_at HX.out hy
        simp only [exV, Value.agg.injEq, Array.mk.injEq, List.cons.injEq, Value.slice.injEq, Option.some.injEq, Addr.mk.injEq, and_true, true_and] at ev
        obtain ⟨⟨e1, e2⟩, e3, e4⟩ := ev
        rw [← e1] at hbl k0 k1 k2 k3 k4 k5
        rw [← e2] at k0 k1 k2 k3 k4 k5
        rw [← e3, ← e4] at hcap
        clear e1 e2 e3 e4
        have HK0 := (hb.cell (p := ⟨b, off + i * 6, none⟩) hbl).trans k0
        have HK1 := (hb.cell (p := ⟨b, off + i * 6 + 1, none⟩) hbl).trans k1
        have HK2 := (hb.cell (p := ⟨b, off + i * 6 + 2, none⟩) hbl).trans k2
        have HK3 := (hb.cell (p := ⟨b, off + i * 6 + 3, none⟩) hbl).trans k3
        have HK4 := (hb.cell (p := ⟨b, off + i * 6 + 4, none⟩) hbl).trans k4
        have HK5 := (hb.cell (p := ⟨b, off + i * 6 + 5, none⟩) hbl).trans k5
        have HC : Hid (∀ W : World, Kept lo w W → Calls Tryz.prog 108 #[.agg #[.int .i64 (y.kind : Int), .string tx, .string ox, .int .i64 nn, .int .i64 (y.pl : Int), .slice ka ln cp]] W fun e w' => e = .returned (.int .i64 (deepE y : Nat)) ∧ Below W.heap.size W w') := fun W hK => IH.out i y _ W hy hK hky
        have HS : Hid (deepL (x.kids.take (i + 1)) = max q (deepE y)) := by show _ = _; rw [take_add hy, deepL_add, ← hs.out]
        have hyd : deepE y ≤ 1000000 := by have := deepL_mem _ i y hy; omega
        have KW : Hid (Kept lo w wr) := ⟨hb.size, fun b' _ h2 => hb.block b' h2⟩
        have hbr : b < wr.heap.size := Nat.lt_of_lt_of_le hbl hb.size
        clear k0 k1 k2 k3 k4 k5 hky hy
        obtain ⟨z, hz⟩ : ∃ z, deepE y = z := ⟨_, rfl⟩
        rw [hz] at HC HS hyd
        clear hz
        by_cases g : q < z
        · have g' : (q : Int) < (z : Int) := by omega
          go_wp2_with (go_at_call 108; refine (HC.out _ (KW.out.alloc _)).mono ?_; rintro e w1 ⟨rfl, hb1⟩)
          exact ⟨⟨i + 1, z, by omega, hyd, by go_num, rfl, by show z = _; rw [HS.out]; omega, bl2 (ba hb) hb1⟩, by simp [intOf]; omega⟩
        · have g' : ¬ (q : Int) < (z : Int) := by omega
          go_wp2_with (go_at_call 108; refine (HC.out _ (KW.out.alloc _)).mono ?_; rintro e w1 ⟨rfl, hb1⟩)
          exact ⟨⟨i + 1, q, by omega, hq, by go_num, rfl, by show q = _; rw [HS.out]; omega, bl2 (ba hb) hb1⟩, by simp [intOf]; omega⟩
      · have c' : ¬ (i : Int) < (n : Int) := by omega
        have F : Hid (q = deepL x.kids) := by
          show _ = _
          rw [hs.out, List.take_of_length_le (by have := HN.out; omega)]
        go_wp2_with fail
        go_ret
        exact ⟨ret_int (by rw [E.out, ← F.out]; first | rfl | omega | (simp; done)), hb⟩
end Go.Proofs.YtkljakeccfnakaaGreatDoor
