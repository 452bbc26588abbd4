/-
  Words in memory, and the walk of the document's own comparison of two lists of them.
-/
import Derived.Test.YtjhjfmmhcpmcbaaDoorB
import Derived.Test.YtjhjfmmhcpmcbaaDoorZ
import Derived.Laws.StructEq
import Derived.WalkSmall
namespace Go.Proofs.YtjhjfmmhcpmcbaaDoor
open Go.RowKit

/-- The value v is a slice of the words ts in the world w. -/
def TokSl (w : World) (v : Value) (ts : List Tok) : Prop :=
  ts.length ≤ 1500 ∧ ∃ a cap, v = .slice a ts.length cap ∧ ts.length ≤ cap ∧ cap ≤ maxLen ∧ (ts = [] ∨ ∃ b off, a = some ⟨b, off, none⟩ ∧ b < w.heap.size ∧ ∀ j t, ts[j]? = some t →
    w.cell? ⟨b, off + j * 4, none⟩ = some (.int .i64 t.kind) ∧ w.cell? ⟨b, off + j * 4 + 1, none⟩ = some (.string ⟨t.text.toArray⟩) ∧ w.cell? ⟨b, off + j * 4 + 2, none⟩ = some (.int .i64 t.val) ∧ w.cell? ⟨b, off + j * 4 + 3, none⟩ = some (.int .i64 t.pos))
theorem TokSl.below {w w' : World} {v : Value} {ts : List Tok} (h : TokSl w v ts) (hb : Below w.heap.size w w') : TokSl w' v ts := by
  obtain ⟨l, a, cap, e, g, g2, h⟩ := h
  refine ⟨l, a, cap, e, g, g2, ?_⟩
  rcases h with h | ⟨b, off, e1, e2, e3⟩
  · exact Or.inl h
  · refine Or.inr ⟨b, off, e1, Nat.lt_of_lt_of_le e2 hb.size, fun j t hj => ?_⟩
    obtain ⟨c0, c1, c2, c3⟩ := e3 j t hj
    exact ⟨(hb.cell (p := ⟨b, _, none⟩) e2).trans c0, (hb.cell (p := ⟨b, _, none⟩) e2).trans c1, (hb.cell (p := ⟨b, _, none⟩) e2).trans c2, (hb.cell (p := ⟨b, _, none⟩) e2).trans c3⟩

/-- Two words held against each other. -/
def sameB (t u : Tok) : Bool := ((t.kind : Int) == (u.kind : Int)) && ((t.text == u.text) && (((t.val : Int) == (u.val : Int)) && ((t.pos : Int) == (u.pos : Int))))
theorem sameB_iff (t u : Tok) : sameB t u = true ↔ t = u := by
  obtain ⟨a, b, c, d⟩ := t
  obtain ⟨a', b', c', d'⟩ := u
  unfold sameB
  simp only [Bool.and_eq_true, beq_iff_eq, Tok.mk.injEq]
  constructor
  · rintro ⟨h1, h2, h3, h4⟩; exact ⟨by omega, h2, by omega, by omega⟩
  · rintro ⟨h1, h2, h3, h4⟩; exact ⟨by omega, h2, by omega, by omega⟩
theorem eq32 (t u : Tok) (w : World) : (Op.equalIn 10000 32 (.agg #[.int .i64 t.kind, .string ⟨t.text.toArray⟩, .int .i64 t.val, .int .i64 t.pos]) (.agg #[.int .i64 u.kind, .string ⟨u.text.toArray⟩, .int .i64 u.val, .int .i64 u.pos])).run Tryd.prog w = .ok (sameB t u) w := by
  have u3 := Tryd.underlying3
  have u9 := Tryd.underlying9
  have a3 := Tryd.isAgg3
  have z3 := Tryd.sizeOf3
  have a9 := Tryd.isAgg9
  have z9 := Tryd.sizeOf9
  have hS : Tryd.prog.underlying 32 = some (.struct (Tryd.prog.fieldsOf 32)) := by kernel_rfl
  rw [show (10000 : Nat) = 9999 + 1 from rfl, run_equalIn_agg w 9999 32 _ _ hS (by kernel_rfl)]
  simp only [Program.fieldsOf, Tryd.underlying32]
  go_simp
  unfold sameB
  by_cases h1 : (t.kind : Int) = (u.kind : Int) <;> by_cases h2 : t.text = u.text <;> by_cases h3 : (t.val : Int) = (u.val : Int) <;> by_cases h4 : (t.pos : Int) = (u.pos : Int) <;> simp [h1, h2, h3, h4]

set_option maxHeartbeats 4000000 in
theorem refSame_any (u v : Value) (ts us : List Tok) (w : World) (hu : TokSl w u ts) (hv : TokSl w v us) :
    Calls Tryd.prog 11 #[u, v] w fun e w' => (∃ r, e = .returned (.bool r) ∧ (r = true ↔ ts = us)) ∧ Below w.heap.size w w' := by
  obtain ⟨l1, a1, cap1, rfl, g1, g1', h1⟩ := hu
  obtain ⟨l2, a2, cap2, rfl, g2, g2', h2⟩ := hv
  by_cases c : ts.length = us.length
  · have H1 : Hid (ts = [] ∨ ∃ b off, a1 = some ⟨b, off, none⟩ ∧ b < w.heap.size ∧ ∀ j t, ts[j]? = some t → w.cell? ⟨b, off + j * 4, none⟩ = some (.int .i64 t.kind) ∧ w.cell? ⟨b, off + j * 4 + 1, none⟩ = some (.string ⟨t.text.toArray⟩) ∧ w.cell? ⟨b, off + j * 4 + 2, none⟩ = some (.int .i64 t.val) ∧ w.cell? ⟨b, off + j * 4 + 3, none⟩ = some (.int .i64 t.pos)) := h1
    have H2 : Hid (us = [] ∨ ∃ b off, a2 = some ⟨b, off, none⟩ ∧ b < w.heap.size ∧ ∀ j t, us[j]? = some t → w.cell? ⟨b, off + j * 4, none⟩ = some (.int .i64 t.kind) ∧ w.cell? ⟨b, off + j * 4 + 1, none⟩ = some (.string ⟨t.text.toArray⟩) ∧ w.cell? ⟨b, off + j * 4 + 2, none⟩ = some (.int .i64 t.val) ∧ w.cell? ⟨b, off + j * 4 + 3, none⟩ = some (.int .i64 t.pos)) := h2
    obtain ⟨n, hn⟩ : ∃ n, ts.length = n := ⟨_, rfl⟩
    have HN : Hid (ts.length = n ∧ us.length = n) := ⟨hn, by omega⟩
    rw [hn] at g1 l1 ⊢
    rw [← c, hn] at g2 l2 ⊢
    clear h1 h2 c hn
    have ne : ((n : Int) != (n : Int)) = false := by simp
    have e32 := eq32
    go_enter Tryd.func11, Tryd.ntmps11
    go_wp2
    go_loopw [5] (fun t wr => ∃ (i : Nat), i ≤ n ∧ t = .int .i64 i ∧ Hid (ts.take i = us.take i) ∧ Below w.heap.size w wr) (fun t _ => n - (intOf t).toNat)
    case atStart => exact ⟨0, Nat.zero_le _, rfl, rfl, Below.refl _ _⟩
    case round =>
      obtain ⟨i, hi, rfl, hs, hb⟩ := hrel
      by_cases d : i < n
      · have d' : (i : Int) < (n : Int) := by omega
        rcases H1 with H1 | ⟨b1, o1, rfl, hb1, hc1⟩
        · have := HN.out.1; rw [H1] at this; simp at this; omega
        rcases H2 with H2 | ⟨b2, o2, rfl, hb2, hc2⟩
        · have := HN.out.2; rw [H2] at this; simp at this; omega
        obtain ⟨t, ht⟩ : ∃ t, ts[i]? = some t := ⟨_, List.getElem?_eq_getElem (by have := HN.out.1; omega)⟩
        obtain ⟨u, hu⟩ : ∃ u, us[i]? = some u := ⟨_, List.getElem?_eq_getElem (by have := HN.out.2; omega)⟩
        obtain ⟨x0, x1, x2, x3⟩ := hc1 i t ht
        obtain ⟨y0, y1, y2, y3⟩ := hc2 i u hu
        have X0 := (hb.cell (p := ⟨b1, o1 + i * 4, none⟩) hb1).trans x0
        have X1 := (hb.cell (p := ⟨b1, o1 + i * 4 + 1, none⟩) hb1).trans x1
        have X2 := (hb.cell (p := ⟨b1, o1 + i * 4 + 2, none⟩) hb1).trans x2
        have X3 := (hb.cell (p := ⟨b1, o1 + i * 4 + 3, none⟩) hb1).trans x3
        have Y0 := (hb.cell (p := ⟨b2, o2 + i * 4, none⟩) hb2).trans y0
        have Y1 := (hb.cell (p := ⟨b2, o2 + i * 4 + 1, none⟩) hb2).trans y1
        have Y2 := (hb.cell (p := ⟨b2, o2 + i * 4 + 2, none⟩) hb2).trans y2
        have Y3 := (hb.cell (p := ⟨b2, o2 + i * 4 + 3, none⟩) hb2).trans y3
        have HT : Hid (ts[i]? = some t ∧ us[i]? = some u) := ⟨ht, hu⟩
        clear x0 x1 x2 x3 y0 y1 y2 y3 hc1 hc2 ht hu
        have si := sameB_iff t u
        cases q : sameB t u
        · have N : Hid (ts ≠ us) := fun e => by
            have h1 := HT.out.1
            rw [e, HT.out.2] at h1
            have := si.2 (Option.some.inj h1).symm
            rw [q] at this; cases this
          clear si
          go_wp2_with fail
          go_quiet (fail)
          go_wp2_with fail
          go_ret
          exact ⟨⟨_, rfl, by simp; exact N.out⟩, below_drewN hb _⟩
        · have E : Hid (ts.take (i + 1) = us.take (i + 1)) := by
            show _ = _
            rw [List.take_add_one, List.take_add_one, hs.out, HT.out.1, HT.out.2, si.1 q]
          clear si
          go_wp2_with fail
          go_quiet (fail)
          go_wp2_with fail
          go_roundw
          case rel => exact ⟨i + 1, by omega, by go_num, E, below_drewN hb _⟩
          case measure => simp [intOf]; omega
      · have ei : i = n := by omega
        have E : Hid (ts = us) := by
          have := hs.out
          rw [ei, List.take_of_length_le (by have := HN.out.1; omega), List.take_of_length_le (by have := HN.out.2; omega)] at this
          exact this
        clear ei
        go_wp2_with fail
        go_ret
        exact ⟨⟨_, rfl, by simp; exact E.out⟩, hb⟩
  · have ne : ((ts.length : Int) != (us.length : Int)) = true := by rw [bne_iff_ne]; omega
    have N : Hid (ts ≠ us) := fun e => c (by rw [e])
    clear h1 h2
    go_enter Tryd.func11, Tryd.ntmps11
    go_wp2
    go_ret
    exact ⟨⟨_, rfl, by simp; exact N.out⟩, Below.refl _ _⟩
end Go.Proofs.YtjhjfmmhcpmcbaaDoor
