/-
  The walks of the library's copy of a row, of its sort, and of the middle one of a row.
-/
import Derived.Test.YtmagldelgnkkfaaO
import Derived.Lib.SliceRun
namespace Go.Proofs.Ytmagldelgnkkfaa
open Go.RowKit

def fvals (zs : List Nat) : List Value := zs.map fun (z : Nat) => Value.float .f64 z
theorem fvals_len (zs : List Nat) : (fvals zs).length = zs.length := by simp [fvals]
theorem fvals_at {zs : List Nat} {j : Nat} {u : Value} (h : (fvals zs)[j]? = some u) : j < zs.length ∧ u = .float .f64 (zs.getD j 0) := by
  unfold fvals at h
  rw [List.getElem?_map] at h
  by_cases hj : j < zs.length
  · rw [List.getElem?_eq_getElem hj] at h
    simp only [Option.map_some, Option.some.injEq] at h
    exact ⟨hj, by rw [← h]; simp [hj]⟩
  · rw [List.getElem?_eq_none (by omega)] at h; cases h
theorem fvals_one (zs : List Nat) : ∀ u ∈ fvals zs, u.oneCell' = true := by
  intro u hu
  unfold fvals at hu
  rw [List.mem_map] at hu
  obtain ⟨z, _, rfl⟩ := hu
  rfl
theorem Try.info24 : (Try.prog.info? 24).map (fun i => (i.zero, i.size, i.bytes)) = some (some (.float .f64 0), 1, 8) := by kernel_rfl
theorem info24 : ∃ i0, Try.prog.info? 24 = some i0 ∧ i0.zero = some (.float .f64 0) ∧ i0.size = 1 ∧ i0.bytes = 8 := by
  have h := Try.info24
  cases e : Try.prog.info? 24 with
  | none => rw [e] at h; cases h
  | some i =>
    rw [e] at h
    simp only [Option.map_some, Option.some.injEq, Prod.mk.injEq] at h
    exact ⟨i, rfl, h.1, h.2.1, h.2.2⟩

/-- A row that the call has made, and that is not empty. -/
theorem own_row {w : World} {base : Nat} {v : Value} {zs : List Nat} (h : w.ownsRow base 24 1 v zs.length (fvals zs)) (hz : 0 < zs.length) :
    ∃ g cap, v = .slice (some ⟨g, 0, none⟩) zs.length cap ∧ base ≤ g ∧ OwnF w g zs := by
  rcases h.2 with ⟨_, h'⟩ | ⟨g, cap, cur, h1, h2, h3, h4, h5, h6, h7⟩
  · omega
  · refine ⟨g, cap, h1, h2, cur.toList.drop zs.length, ?_⟩
    rw [h3]
    congr 2
    apply Array.toList_inj.1
    rw [Nat.mul_one] at h7
    show cur.toList = (fvals zs ++ cur.toList.drop zs.length)
    rw [← h7, List.take_append_drop]
/-- A row that the call has made reads as it is. -/
theorem row_sl {w : World} {base : Nat} {v : Value} {zs : List Nat} (h : w.ownsRow base 24 1 v zs.length (fvals zs)) (f : Fits zs) (l : zs.length ≤ 1000) : SlF w v zs := by
  rcases Nat.eq_zero_or_pos zs.length with h0 | h0
  · have e : zs = [] := List.eq_nil_of_length_eq_zero h0
    rcases h.2 with ⟨rfl, _⟩ | ⟨g, cap, cur, rfl, _⟩
    · exact ⟨f, l, none, 0, by rw [h0], Or.inl e⟩
    · exact ⟨f, l, _, cap, rfl, Or.inl e⟩
  · obtain ⟨g, cap, rfl, _, ho⟩ := own_row h h0
    exact ⟨f, l, _, cap, rfl, Or.inr ⟨g, 0, rfl, ho.lt, fun i hi => by rw [Nat.zero_add]; exact ho.cell hi⟩⟩

set_option maxHeartbeats 4000000 in
theorem clone_any (b off cap : Nat) (zs : List Nat) (w : World) (hl : zs.length ≤ 1000) (hc : ∀ i, i < zs.length → w.cell? ⟨b, off + i, none⟩ = some (.float .f64 (zs.getD i 0))) :
    Calls Try.prog 25 #[.slice (some ⟨b, off, none⟩) zs.length cap] w fun e w' => ∃ v', e = .returned v' ∧ w'.ownsRow w.heap.size 24 1 v' zs.length (fvals zs) ∧ Below w.heap.size w w' := by
  obtain ⟨i0, hi, hz0, hz1, hz2⟩ := info24
  have q : ∀ (w : World) (a : Option Addr) (n c n' c' : Nat), (binOp .eql 34 (.slice a n c) (.slice none n' c')).run Try.prog w = .ok (.bool a.isNone) w := fun w a n c n' c' => Lib.run_eql_slice_nil w _ _ a n c n' c' Try.underlying34
  have A : Hid (∀ i, i < zs.length → w.cell? ⟨b, off + i, none⟩ = some (.float .f64 (zs.getD i 0))) := hc
  clear hc
  go_enter Try.func25, Try.ntmps25
  go_wp2_with (at_builtin; refine wpList_append_own _ rfl _ _ 34 rfl w.heap.size 24 i0 (.float .f64 0) 1 8 Try.underlying34 hi hz0 hz1 hz2 rfl (by omega) _ _ _ rfl (World.ownsRow_made w #[] 0 (Nat.le_refl _) (Nat.zero_le _) (by simp)) ⟨b, off, none⟩ zs.length cap (fvals zs) rfl ?qc1 ?qc2 ?qc3 ?qc4 ?qc5 ?qc6 ?_)
  case qc1 => rw [fvals_len]; omega
  case qc2 =>
    intro j u hj
    rw [Addr.add_lit]
    obtain ⟨h1, rfl⟩ := fvals_at hj
    exact Lib.cell?_alloc_some _ (A.out j h1)
  case qc3 => exact fvals_one zs
  case qc4 => unfold maxLen; omega
  case qc5 => omega
  case qc6 => simp
  intro v' w1 hown hgrow hnil
  go_wp2
  go_ret
  refine ⟨v', rfl, by simpa using hown, ?_⟩
  exact ((Below.refl _ w).alloc (Nat.le_refl _) _).grown hgrow (by simp) (by intro k hk; simp [Value.ownBlock] at hk; omega)

set_option maxHeartbeats 4000000 in
theorem sortStable_any (g : Nat) (zs : List Nat) (cap : Nat) (w : World) (h : OwnF w g zs) (hf : Fits zs) (hn : zs.length ≤ 100) :
    Calls Try.prog 26 #[.slice (some ⟨g, 0, none⟩) zs.length cap, .func (.func 27) #[] #[]] w fun e w' => e = .returned (.tuple #[]) ∧ (∃ ys, OwnF w' g ys ∧ Mix zs ys 0 zs.length ∧ Srt (at0 ys) 0 zs.length) ∧ w.grownBy w' (some g) := by
  have hc := stable_any g zs cap w h hf hn
  clear h hf hn
  go_enter Try.func26, Try.ntmps26
  go_wp2_with (go_at_call 28; refine hc.mono ?_; rintro e w1 ⟨rfl, ho, hg⟩; clear hc)
  go_end0
  exact ⟨rfl, ho, hg⟩

set_option maxHeartbeats 4000000 in
theorem middle_none (v : Value) (zs : List Nat) (w : World) (h : SlF w v zs) (h0 : zs.length = 0) :
    Calls Try.prog 16 #[v] w fun e w' => e = .returned (.float .f64 theNaN) ∧ w' = w := by
  obtain ⟨_, _, a, cap, rfl, _⟩ := h
  rw [h0]
  go_enter Try.func16, Try.ntmps16
  go_wp2_with (go_at_call 24; refine (mathNaN_any _).mono ?_; rintro e w1 ⟨rfl, rfl⟩)
  go_ret
  exact ⟨rfl, rfl⟩

set_option maxHeartbeats 4000000 in
theorem middle_some (v : Value) (zs : List Nat) (w : World) (h : SlF w v zs) (h0 : 0 < zs.length) (hn : zs.length ≤ 100) :
    Calls Try.prog 16 #[v] w fun e w' => (∃ ys, e = .returned (.float .f64 (at0 ys (zs.length / 2))) ∧ Mix zs ys 0 zs.length ∧ Srt (at0 ys) 0 zs.length) ∧ Below w.heap.size w w' := by
  obtain ⟨f, _, a, cap, rfl, h⟩ := h
  rcases h with h | ⟨b, off, rfl, hb, hcell⟩
  · rw [h] at h0; simp at h0
  · obtain ⟨N, hN⟩ : ∃ N, zs.length = N := ⟨_, rfl⟩
    have HN : Hid (zs.length = N) := hN
    have HF : Hid (Fits zs) := f
    have hc := clone_any b off cap zs w (by omega) hcell
    have ez : ((N : Int) == 0) = false := by rw [beq_eq_false_iff_ne]; omega
    rw [hN] at hn h0 hc ⊢
    clear hN f hcell
    go_enter Try.func16, Try.ntmps16
    go_wp2_with (go_at_call 25; refine hc.mono ?_; rintro e w1 ⟨v1, rfl, hr, hb1⟩; clear hc)
    rw [← HN.out] at hr
    obtain ⟨g, cap1, rfl, hg1, ho⟩ := own_row hr (by have := HN.out; omega)
    have hs := sortStable_any g zs cap1 w1 ho HF.out (by have := HN.out; omega)
    rw [HN.out] at hs ⊢
    clear hr ho
    go_wp2_with (go_at_call 26; refine hs.mono ?_; rintro e w2 ⟨rfl, ⟨ys, ho2, hm2, hs2⟩, hg2⟩; clear hs; have cc : w2.cell? ⟨g, N / 2, none⟩ = some (.float .f64 (at0 ys (N / 2))) := ho2.cell (by have := hm2.len; have := HN.out; omega))
    go_ret
    exact ⟨⟨ys, rfl, hm2, hs2⟩, hb1.grown hg2 hb1.size (fun k e => by rw [Option.some.injEq] at e; omega)⟩
end Go.Proofs.Ytmagldelgnkkfaa
