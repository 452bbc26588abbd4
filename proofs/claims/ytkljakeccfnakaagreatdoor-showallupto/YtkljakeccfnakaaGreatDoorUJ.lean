/-
  The walk of the document's own Digits.
-/
import Derived.Test.YtkljakeccfnakaaGreatDoorTP
import Derived.Laws.IdiomStrings
namespace Go.Proofs.YtkljakeccfnakaaGreatDoor
open Go.RowKit

theorem conv1 (v : Int) (h0 : 0 ≤ v) (h1 : v < 256) (wr : World) : Sem.run Tryz.prog (convert 52 9 (.slice (some ⟨wr.heap.size, 0, none⟩) 1 1)) (wr.alloc (.cells #[.int .u8 v] 5)) = .ok (.string ⟨#[UInt8.ofNat v.toNat]⟩) (wr.alloc (.cells #[.int .u8 v] 5)) := by
  refine run_convert_bytes_back (P := Tryz.prog) _ 52 9 5 ⟨wr.heap.size, 0, none⟩ 1 [UInt8.ofNat v.toNat] Tryz.underlying52 Tryz.underlying5 Tryz.underlying9 ?_
  intro j hj
  have : j = 0 := by simp at hj; omega
  subst this
  have e2 : ([UInt8.ofNat v.toNat][0]'hj).toNat = v.toNat := by simp; omega
  rw [e2]
  have e3 : ((v.toNat : Nat) : Int) = v := by omega
  rw [e3]
  simp [World.cell?, World.alloc, Addr.add, -World.alloc_eq]

set_option maxHeartbeats 4000000 in
theorem digits_any (n : Nat) (hn : n ≤ 999999999) (w : World) : Calls Tryz.prog 28 #[.int .i64 (n : Int)] w fun e w' => e = .returned (.string ⟨(Lib.decDigits n).toArray⟩) ∧ Below w.heap.size w w' := by
  go_enter Tryz.func28, Tryz.ntmps28
  go_wp2_with fail
  go_loopw [0, 3] (fun t u wr => ∃ (m : Nat) (z : List UInt8), m ≤ 999999999 ∧ z.length ≤ 20 ∧ t = .int .i64 (m : Int) ∧ u = .string ⟨z.toArray⟩ ∧ Hid (Lib.decDigits n = Lib.decDigits m ++ z ∧ m < 10 ^ (10 - z.length)) ∧ Below w.heap.size w wr) (fun t _ _ => (intOf t).toNat)
  case atStart => exact ⟨n, [], hn, by simp, rfl, rfl, ⟨by simp, by simp; omega⟩, Below.refl _ _⟩
  case round =>
    obtain ⟨m, z, hm, hz, rfl, rfl, hs, hb⟩ := hrel
    by_cases c : (m : Int) > 9
    · have hm2 : m ≤ 999999999 := hm
      clear hm hn
      generalize hM : (m : Int) = M at *
      have K := fun wr : World => conv1 (48 + M % 10) (by omega) (by omega) wr
      go_wp2_with fail
      subst hM
      have q : (m : Int) / 10 = ((m / 10 : Nat) : Int) := by omega
      rw [q]
      have g : Lib.decDigits m = Lib.decDigits (m / 10) ++ [UInt8.ofNat (48 + (m : Int) % 10).toNat] := by
        rw [Lib.decDigits, dif_neg (by omega)]
        congr 3
      obtain ⟨h1, h2⟩ := hs
      have hl : z.length < 9 := by
        by_cases hz9 : z.length < 9
        · exact hz9
        · have : (10 : Nat) ^ (10 - z.length) ≤ 10 ^ 1 := Nat.pow_le_pow_right (by omega) (by omega)
          omega
      refine ⟨⟨m / 10, UInt8.ofNat (48 + (m : Int) % 10).toNat :: z, by omega, by simp; omega, rfl, ?_, ⟨?_, ?_⟩, ?_⟩, ?_⟩
      · simp [ByteArray.ext_iff]
      · rw [h1, g]; simp
      · have e : (10 : Nat) ^ (10 - z.length) = 10 ^ (10 - (z.length + 1)) * 10 := by
          rw [← Nat.pow_succ]; congr 1; omega
        rw [List.length_cons]
        omega
      · exact hb.alloc hb.size _
      · simp [intOf]; omega
    · clear hn
      have hm2 : m ≤ 9 := by omega
      clear c
      generalize hM : (m : Int) = M at *
      have K := fun wr : World => conv1 (48 + M) (by omega) (by omega) wr
      go_wp2_with fail
      subst hM
      go_ret
      obtain ⟨h1, h2⟩ := hs
      have g : Lib.decDigits m = [UInt8.ofNat (48 + (m : Int)).toNat] := by
        rw [Lib.decDigits, dif_pos (by omega)]
        congr 2
      refine ⟨?_, hb.alloc hb.size _⟩
      rw [h1, g]
      simp [ByteArray.ext_iff]
end Go.Proofs.YtkljakeccfnakaaGreatDoor
