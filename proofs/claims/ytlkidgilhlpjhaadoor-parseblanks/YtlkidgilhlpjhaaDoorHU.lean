/-
  The walk of the fixed answer that the laws of layer 5 ask first.
-/
import Derived.Test.YtlkidgilhlpjhaaDoorHT
import Derived.Test.YtlkidgilhlpjhaaDoorHP
namespace Go.Proofs.YtlkidgilhlpjhaaDoor
open Go.RowKit

def wakeL : List UInt8 := [99, 101, 108, 108, 32, 120, 32, 61, 32, 48, 32, 100, 111, 109, 97, 105, 110, 32, 120, 32, 58, 61, 32, 49, 59, 32, 33, 120, 32, 101, 110, 100]
def wakeTs : List Tok := [⟨2, [99, 101, 108, 108], 0, 0⟩, ⟨1, [120], 0, 5⟩, ⟨4, [61], 0, 7⟩, ⟨3, [48], 0, 9⟩, ⟨2, [100, 111, 109, 97, 105, 110], 0, 11⟩, ⟨1, [120], 0, 18⟩, ⟨4, [58, 61], 0, 20⟩, ⟨3, [49], 1, 23⟩, ⟨4, [59], 0, 24⟩, ⟨4, [33], 0, 26⟩, ⟨1, [120], 0, 27⟩, ⟨2, [101, 110, 100], 0, 29⟩]
theorem wake_lex5 : lexT wakeL = .ok wakeTs := by rfl
def wakeD : Ex := .mk 1 [120] [] 0 0 []
def wakeX : Ex := .mk 9 [] [] 0 18 [.mk 11 [120] [] 0 18 [.mk 1 [] [] 1 23 []], .mk 10 [120] [] 0 26 []]
theorem wake_parse : parseO 32 wakeTs = .ok (progE [wakeD] [wakeX]) [] := by rfl
theorem progE_inj {ds es ds' es' : List Ex} (h : progE ds es = progE ds' es') : ds = ds' ∧ es = es' := by
  simp only [progE, Ex.mk.injEq, true_and] at h
  obtain ⟨h1, h2⟩ := h
  have hl : ds.length = ds'.length := by omega
  exact List.append_inj h2 hl
/-- The first domain, in memory. -/
theorem first_dom {lo : Nat} {w : World} {v : Value} {ds : List Ex} {x : Ex} {es : List Ex} (h : PrV lo w v ds (x :: es)) :
    ∃ (a : Option Addr) (c b off d : Nat) (nn : Int) (tx ox : ByteArray) (ka : Option Addr) (ln cp : Nat), v = .agg #[.slice a ds.length c, .slice (some ⟨b, off, none⟩) (es.length + 1) d] ∧ es.length + 1 ≤ d ∧ lo ≤ b ∧ b < w.heap.size ∧
      (w.cell? ⟨b, off, none⟩ = some (.int .i64 (x.kind : Int)) ∧ w.cell? ⟨b, off + 1, none⟩ = some (.string tx) ∧ w.cell? ⟨b, off + 2, none⟩ = some (.string ox) ∧ w.cell? ⟨b, off + 3, none⟩ = some (.int .i64 nn) ∧ w.cell? ⟨b, off + 4, none⟩ = some (.int .i64 (x.pl : Int)) ∧ w.cell? ⟨b, off + 5, none⟩ = some (.slice ka ln cp)) ∧
      ExV lo w (.agg #[.int .i64 (x.kind : Int), .string tx, .string ox, .int .i64 nn, .int .i64 (x.pl : Int), .slice ka ln cp]) x := by
  obtain ⟨vd, vx, rfl, ⟨_, a, c, rfl, _⟩, h2⟩ := h
  obtain ⟨b, off, cap, nn, tx, ox, ka, ln, cp, e, hc, hlo, hb, hk, hx⟩ := kid_at (j := 0) h2 (y := x) rfl
  simp only [exV, Value.agg.injEq, Array.mk.injEq, List.cons.injEq, and_true, true_and, Ex.kind, Ex.text, Ex.other, Ex.n, Ex.pl, Ex.kids, List.length_cons] at e hc
  rw [show off + 0 * 6 = off by omega] at hk
  exact ⟨a, c, b, off, cap, nn, tx, ox, ka, ln, cp, by rw [e], hc, hlo, hb, hk, hx⟩
set_option maxHeartbeats 4000000 in
theorem awake_any (C : ParseC) (w : World) : Calls Tryd.prog 6 #[] w fun e w' => e = .returned (.bool true) ∧ Below w.heap.size w w' := by
  have HP : Hid (Calls Tryd.prog 8 #[.string ⟨wakeL.toArray⟩] w fun e w' => (∃ v, e = .returned (.tuple #[v, .int .i64 0, .int .i64 0]) ∧ PrV w.heap.size w' v [wakeD] [wakeX]) ∧ Below w.heap.size w w') := by
    refine (C.parse ⟨wakeL.toArray⟩ w (by decide)).mono fun e w' ⟨⟨v, c, p, he, h⟩, hb⟩ => ⟨?_, hb⟩
    unfold ParseA at h
    rw [show lexT (⟨wakeL.toArray⟩ : ByteArray).data.toList = .ok wakeTs from wake_lex5] at h
    dsimp only at h
    rw [show parseO wakeL.length wakeTs = .ok (progE [wakeD] [wakeX]) [] from wake_parse] at h
    obtain ⟨rfl, rfl, ds, es, hX, hp⟩ := h
    obtain ⟨rfl, rfl⟩ := progE_inj hX
    exact ⟨v, he, hp⟩
  have HD : Hid (deepE wakeX = 3) := rfl
  unfold wakeL at HP
  go_enter Tryd.func6, Tryd.ntmps6
  go_wp2_with fail
  refine HP.out.mono ?_
  rintro e w1 ⟨⟨v, rfl, hp⟩, hb1⟩
  obtain ⟨a, c, b, off, d, nn, tx, ox, ka, ln, cp, rfl, hd, _, hbl, ⟨k0, k1, k2, k3, k4, k5⟩, hx⟩ := first_dom hp
  have HX := Hid.intro hx
  simp only [List.length_nil, List.length_cons, Nat.zero_add, wakeX, Ex.kind, Ex.pl] at hd k0 k4 ⊢
  clear hp hx
  go_wp2_with fail
  refine (deep_any _ wakeX _ w.heap.size _ (Nat.le_refl _) (HX.out.keep ((Kept.refl _ _).alloc _)) (by rw [HD.out]; decide)).mono ?_
  rintro e w2 ⟨rfl, hb2⟩
  rw [HD.out]
  go_wp2
  go_ret
  exact ⟨rfl, bl2 (ba hb1) hb2⟩
end Go.Proofs.YtlkidgilhlpjhaaDoor
