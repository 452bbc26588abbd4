/-
  The walk of ShowParts.
-/
import Derived.Test.YtkljakeccfnakaaGreatDoorUb
import Derived.Test.YtkljakeccfnakaaGreatDoorUa
namespace Go.Proofs.YtkljakeccfnakaaGreatDoor
open Go.RowKit

/-- What the laws of a program are handed. -/
structure LawK (hi : Nat) (w : World) (v : Value) (ds : List Dl) (es : List Px) : Prop where
  pv : PV hi w v ds es
  hhi : hi ≤ w.heap.size
  ok : Ok w.heap.size w
  sz : ∀ x ∈ es, szX x ≤ 1000000000000000
theorem LawK.awake {hi : Nat} {w : World} {v : Value} {ds : List Dl} {es : List Px} (h : LawK hi w v ds es) {W : World} (hW : Below w.heap.size w W) : Calls Tryz.prog 9 #[] W fun e w' => e = .returned (.bool true) ∧ Below W.heap.size W w' :=
  awake_any W ((h.ok.keep hW).up hW.size)
theorem LawK.small {hi : Nat} {w : World} {v : Value} {ds : List Dl} {es : List Px} (h : LawK hi w v ds es) {W : World} (hW : Below w.heap.size w W) : Calls Tryz.prog 10 #[v] W fun e w' => e = .returned (.bool (smallP ds es)) ∧ Below W.heap.size W w' :=
  smallP_any ds es v hi W (h.pv.keep (hW.mono h.hhi)) (Nat.le_trans h.hhi hW.size) h.sz
theorem LawK.show {hi : Nat} {w : World} {v : Value} {ds : List Dl} {es : List Px} (h : LawK hi w v ds es) (hs : smallP ds es = true) {W : World} (hW : Below w.heap.size w W) : Calls Tryz.prog 11 #[v] W fun e w' => e = .returned (.tuple #[.string ⟨(if progB ds es then shwP ds es else []).toArray⟩, .int .i64 (if progB ds es then 0 else 3)]) ∧ Below W.heap.size W w' :=
  showP_any ds es v hi W (h.pv.keep (hW.mono h.hhi)) (Nat.le_trans h.hhi hW.size) ((h.ok.keep hW).up hW.size) fun hp => by
    have := shwP_len 2000 hp (small_sz hs)
    omega
end Go.Proofs.YtkljakeccfnakaaGreatDoor
