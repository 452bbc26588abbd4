/-
  The document's Same answers true of two programs that are the same.
-/
import Derived.Test.YtlkidgilhlpjhaaDoorHX
namespace Go.Proofs.YtlkidgilhlpjhaaDoor
open Go.RowKit

theorem pr_slice {lo : Nat} {w : World} {a : Option Addr} {l f : Nat} {es : List Ex} (hx : ExV lo w (exV 0 [] [] 0 0 (.slice a l f)) (.mk 0 [] [] 0 0 es)) (hne : es ≠ []) : ∃ b off : Nat, a = some ⟨b, off, none⟩ ∧ ∀ (j : Nat) (p : Ex), es[j]? = some p → ∃ (kd : Nat) (nn : Int) (pp : Nat) (tx ox : ByteArray) (a : Option Addr) (ln cp : Nat), b < w.heap.size ∧ (w.cell? ⟨b, off + j * 6, none⟩ = some (.int .i64 (kd : Int)) ∧ w.cell? ⟨b, off + j * 6 + 1, none⟩ = some (.string tx) ∧ w.cell? ⟨b, off + j * 6 + 2, none⟩ = some (.string ox) ∧ w.cell? ⟨b, off + j * 6 + 3, none⟩ = some (.int .i64 (nn : Int)) ∧ w.cell? ⟨b, off + j * 6 + 4, none⟩ = some (.int .i64 (pp : Int)) ∧ w.cell? ⟨b, off + j * 6 + 5, none⟩ = some (.slice a ln cp)) ∧ ExV lo w (.agg #[.int .i64 (kd : Int), .string tx, .string ox, .int .i64 (nn : Int), .int .i64 (pp : Int), .slice a ln cp]) p := by
  obtain ⟨b, off, cq, e, _, r⟩ := kids_row hx hne
  simp only [exV, Value.agg.injEq, Array.mk.injEq, List.cons.injEq, Value.slice.injEq] at e
  exact ⟨b, off, e.2.2.2.2.2.1.1, r⟩
theorem same_prog (pb : Bool) {lo lo2 : Nat} {w : World} {u v : Value} {ds ds2 es es2 : List Ex} (h1 : PrV lo w u ds es) (h2 : PrV lo2 w v ds2 es2) (hd : ds.length = ds2.length) (hdj : ∀ (j : Nat) (d d2 : Ex), ds[j]? = some d → ds2[j]? = some d2 → SameX pb d d2) (he : es.length = es2.length) (hej : ∀ (j : Nat) (p q : Ex), es[j]? = some p → es2[j]? = some q → SameX pb p q) :
    Calls Tryd.prog 9 #[u, v, .bool pb] w fun e w' => e = .returned (.bool true) ∧ Below w.heap.size w w' := by
  obtain ⟨vd, vx, rfl, ⟨hn, a1, c1, rfl, _, hr1⟩, hx⟩ := h1
  obtain ⟨vd2, vx2, rfl, ⟨_, a2, c2, rfl, _, hr2⟩, hx2⟩ := h2
  obtain ⟨e1, f1, ee⟩ := hx.form
  simp only [exV, Value.agg.injEq, Array.mk.injEq, List.cons.injEq, and_true, true_and, Ex.kind, Ex.text, Ex.other, Ex.n, Ex.pl, Ex.kids] at ee
  subst ee
  obtain ⟨e2, f2, ee⟩ := hx2.form
  simp only [exV, Value.agg.injEq, Array.mk.injEq, List.cons.injEq, and_true, true_and, Ex.kind, Ex.text, Ex.other, Ex.n, Ex.pl, Ex.kids] at ee
  subst ee
  have hm : es.length ≤ 1000000 := kids_len hx
  rw [← hd, ← he]
  refine same_prog_walk pb w lo lo2 a1 a2 e1 e2 ds.length c1 c2 es.length f1 f2 hn hm (fun j hj => ?_) (fun j hj => ?_)
  · obtain ⟨d, hd1⟩ : ∃ d, ds[j]? = some d := ⟨_, List.getElem?_eq_getElem hj⟩
    obtain ⟨d2, hd2⟩ : ∃ d, ds2[j]? = some d := ⟨_, List.getElem?_eq_getElem (by omega)⟩
    obtain ⟨s1, s2, _, s4, s5, _⟩ := (same_parts pb d d2).1 (hdj j d d2 hd1 hd2)
    rcases hr1 with h0 | ⟨b1, o1, rfl, _, l1, k1⟩
    · rw [h0] at hd1; simp at hd1
    rcases hr2 with h0 | ⟨b2, o2, rfl, _, l2, k2⟩
    · rw [h0] at hd2; simp at hd2
    have q2 := k2 j d2 hd2
    rw [← s1, ← s2, ← s4] at q2
    exact ⟨b1, o1, b2, o2, d.kind, _, d.n, d.pl, d2.pl, rfl, rfl, l1, l2, s5, k1 j d hd1, q2⟩
  · obtain ⟨p, hp⟩ : ∃ p, es[j]? = some p := ⟨_, List.getElem?_eq_getElem hj⟩
    obtain ⟨q, hq⟩ : ∃ q, es2[j]? = some q := ⟨_, List.getElem?_eq_getElem (by omega)⟩
    obtain ⟨b1, o1, g1, r1⟩ := pr_slice hx (fun h0 => by rw [h0] at hp; simp at hp)
    obtain ⟨b2, o2, g2, r2⟩ := pr_slice hx2 (fun h0 => by rw [h0] at hq; simp at hq)
    exact ⟨p, q, b1, o1, b2, o2, g1, g2, hej j p q hp hq, r1 j p hp, r2 j q hq⟩
end Go.Proofs.YtlkidgilhlpjhaaDoor
