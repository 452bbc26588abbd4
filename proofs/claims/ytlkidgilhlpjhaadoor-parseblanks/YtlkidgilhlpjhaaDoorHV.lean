/-
  The walk of ParseFault.
-/
import Derived.Test.YtlkidgilhlpjhaaDoorHU
import Derived.Test.YtlkidgilhlpjhaaDoorGg
namespace Go.Proofs.YtlkidgilhlpjhaaDoor
open Go.RowKit

theorem lexF_place (f : Nat) : ∀ (l : List UInt8) (p k c q : Nat), lexF f l p k = .err c q → q ≤ p + l.length := by
  induction f with
  | zero => intro l p k c q h; cases h
  | succ f ih =>
    intro l p k c q h
    unfold lexF at h
    split at h
    · cases h
    · cases hs : stepL l with
      | bad => rw [hs] at h; simp only [Res.err.injEq] at h; omega
      | skip n => rw [hs] at h; have := ih _ _ _ _ _ h; have := step_len hs; rw [List.length_drop] at *; omega
      | tok kd v n =>
        rw [hs] at h
        simp only at h
        have := tok_len hs
        split at h
        · simp only [Res.err.injEq] at h; omega
        · cases hr : lexF f (l.drop n) (p + n) (k + 1) with
          | ok us => rw [hr] at h; cases h
          | err c' q' =>
            rw [hr] at h
            simp only [Res.cons, Res.err.injEq] at h
            have := ih _ _ _ _ _ hr
            rw [List.length_drop] at this
            omega
theorem lex_place {l : List UInt8} {c p : Nat} (h : lexT l = .err c p) : p ≤ l.length := by
  unfold lexT at h
  split at h
  · simp only [Res.err.injEq] at h; omega
  · have := lexF_place _ _ _ _ _ _ h; omega
theorem ans_form {lo : Nat} {w : World} {v : Value} {c p : Nat} {l : List UInt8} (h : ParseA lo w v c p l) : ∃ a n x b m y, v = .agg #[.slice a n x, .slice b m y] := by
  unfold ParseA at h
  split at h
  · exact ⟨_, _, _, _, _, _, h.1⟩
  · split at h
    · obtain ⟨_, _, ds, es, _, hp⟩ := h
      obtain ⟨a, x, b, y, e⟩ := hp.form
      exact ⟨a, _, x, b, _, y, e⟩
    · exact ⟨_, _, _, _, _, _, h.1⟩
    · exact ⟨_, _, _, _, _, _, h.1⟩
    · exact h.elim
theorem bytes_append (a b : ByteArray) : (a ++ b).data.toList = a.data.toList ++ b.data.toList := by
  simp [ByteArray.data_append]
/-- What an error other than 'words that make no program' tells. -/
theorem ans_place {lo : Nat} {w : World} {v : Value} {c p : Nat} {l : List UInt8} (h : ParseA lo w v c p l) : p ≤ l.length := by
  unfold ParseA at h
  split at h
  · rename_i c' p' hl; rw [h.2.2]; exact lex_place hl
  · rename_i ts hl
    split at h
    · rw [h.2.1]; exact Nat.zero_le _
    · rename_i r hr; rw [h.2.2]; exact (place_law hl).2 _ hr
    · rename_i q hq; rw [h.2.2]; exact (place_law hl).1 _ hq
    · exact h.elim
theorem ans_eleven {lo : Nat} {w : World} {v : Value} {p : Nat} {l : List UInt8} (h : ParseA lo w v 11 p l) : ∃ ts r, lexT l = .ok ts ∧ parseO l.length ts = .no r ∧ p = place l.length r := by
  unfold ParseA at h
  split at h
  · rename_i c' p' hl; have := lex_err hl; have := h.2.1; omega
  · rename_i ts hl
    split at h
    · have := h.1; omega
    · rename_i r hr; exact ⟨ts, r, hl, hr, h.2.2⟩
    · have := h.2.1; omega
    · exact h.elim
set_option maxHeartbeats 8000000 in
theorem parseFault_walk (C : ParseC) (L : LexC) (s : ByteArray) (w : World) (hs : s.size ≤ 140737488351232) :
    Calls Tryd.prog 5 #[.string s] w fun e w' => e = .returned (.bool true) ∧ Below w.heap.size w w' := by
  have HA : Hid (∀ W, Calls Tryd.prog 6 #[] W fun e w' => e = .returned (.bool true) ∧ Below W.heap.size W w') := fun W => awake_any C W
  have HP : Hid (∀ W, Calls Tryd.prog 8 #[.string s] W fun e w' => (∃ (v : Value) (c p : Nat), e = .returned (.tuple #[v, .int .i64 (c : Int), .int .i64 (p : Int)]) ∧ ParseA W.heap.size w' v c p s.data.toList) ∧ Below W.heap.size W w') := fun W => C.parse s W hs
  have HC := Hid.intro C
  have HL := Hid.intro L
  have HZ : Hid (s.data.toList.length = s.size) := (Lib.size_eq s).symm
  clear C L
  go_enter Tryd.func5, Tryd.ntmps5
  go_wp2_with fail
  refine (HA.out _).mono ?_
  rintro e w1 ⟨rfl, hb1⟩
  go_wp2_with fail
  refine (HP.out _).mono ?_
  rintro e w2 ⟨⟨v, c, p, rfl, hA⟩, hb2⟩
  obtain ⟨pa, pn, px, pb, pm, py, rfl⟩ := ans_form hA
  have hpl := ans_place hA
  rw [HZ.out] at hpl
  have hpl' : (p : Int) ≤ (s.size : Int) := by omega
  have hp0 : (0 : Int) ≤ (p : Int) := by omega
  have HAns := Hid.intro hA
  have HB : Hid (Below w.heap.size w w2) := Hid.intro (bl2 hb1 hb2)
  clear hA hb1 hb2
  by_cases hc : c = 11
  · subst hc
    obtain ⟨ts, r, hl, hr, hp⟩ := ans_eleven HAns.out
    have hT := fun W => tokens_at HL.out s W hs
    rw [hl] at hT
    have HT : Hid (∀ W : World, Calls Tryd.prog 7 #[.string s] W fun e w' => (∃ v, e = .returned (.tuple #[v, .int .i64 0, .int .i64 0]) ∧ TokSl w' v ts) ∧ Below W.heap.size W w') := hT
    have HF := Hid.intro (fault_law hl hr)
    have hu16 : ∀ t ∈ ts, t.text.length ≤ 16 := fun t ht => (lex_good hl t ht).len.2
    have HU16 := Hid.intro hu16
    have h82 : s.size ≤ 8192 := by have := (lexT_parts hl).1; rw [HZ.out] at this; exact this
    clear hu16
    have HPp := Hid.intro hp
    clear hT hl hr hp
    go_wp2_with fail
    refine (HT.out _).mono ?_
    rintro e w3 ⟨⟨v, rfl, hv⟩, hb3⟩
    have HV := Hid.intro hv
    have hb3s := hb3.size
    (try simp at hb3s)
    have HB3 : Hid (Below w.heap.size w w3) := Hid.intro (bl2 (ba HB.out) hb3)
    clear hb3
    obtain ⟨hn, va, vc, rfl, hvc, _, hrow⟩ := hv
    have hstep : Hid (∃ N, N ≤ ts.length ∧ (∀ i u, i < N → ts[i]? = some u → ¬ u.pos = p) ∧ ((N = ts.length ∧ p = s.size) ∨ (∃ t, ts[N]? = some t ∧ p = t.pos ∧ lexT (s.data.toList.take p ++ t.text) = .ok (ts.take (N + 1)) ∧ parseO (s.data.toList.take p ++ t.text).length (ts.take (N + 1)) = .no [t]))) := by
      rcases HF.out with ⟨hr0, hno⟩ | ⟨n, t, h1, h2, h3, h4, h5⟩
      · refine ⟨ts.length, Nat.le_refl _, fun i u _ hu e => hno u (List.mem_of_getElem? hu) ?_, Or.inl ⟨rfl, ?_⟩⟩
        · rw [e, HPp.out, hr0]; rfl
        · rw [HPp.out, hr0]; exact HZ.out
      · rw [← h2, ← HPp.out] at h4 h5
        refine ⟨n, Nat.le_of_lt (List.getElem?_eq_some_iff.1 h1).1, fun i u hi hu e => ?_, Or.inr ⟨t, h1, by rw [HPp.out, h2], h4, h5⟩⟩
        have := h3 i u hu (by rw [e, HPp.out, h2])
        omega
    obtain ⟨N, hN, hsm, hend⟩ := hstep.out
    have HSM := Hid.intro hsm
    have HEN := Hid.intro hend
    have HRW := Hid.intro hrow
    clear hsm hend hrow hstep HF HPp
    generalize hln : ts.length = m at *
    have HLN := Hid.intro hln
    clear hln
    go_wp2_with fail
    obtain ⟨x, hx, hsl⟩ : ∃ x : ByteArray, x.data.toList = s.data.toList.take p ∧ ∀ W, (Instr.slice 9 (.string s) none (some (.int .i64 (p : Int))) none).run Tryd.prog W = .ok (.string x) W := by
      refine ⟨s.extract 0 p, by rw [Lib.extract_data]; simp, fun W => ?_⟩
      rw [run_slice_string_to_if W 9 s .i64 _ Tryd.underlying9, if_pos ⟨by omega, by omega⟩]
      simp
    go_loopw [9] (fun t wr => ∃ i : Nat, i ≤ N ∧ t = .int .i64 i ∧ wr = w3) (fun t _ => m - (intOf t).toNat)
    case atStart => exact ⟨0, Nat.zero_le _, rfl, rfl⟩
    case round =>
      obtain ⟨i, hi, rfl, rfl⟩ := hrel
      by_cases c : i < m
      · have c' : (i : Int) < (m : Int) := by omega
        obtain ⟨u, hu⟩ : ∃ u, ts[i]? = some u := ⟨_, List.getElem?_eq_getElem (by rw [HLN.out]; exact c)⟩
        rcases HRW.out with h0 | ⟨b, off, rfl, hbl, htok⟩
        · rw [h0] at hu; simp at hu
        obtain ⟨k0, k1, k2, k3⟩ := htok i u hu
        clear htok
        by_cases hp : u.pos = p
        · have hp' : ((u.pos : Int) == (p : Int)) = true := by rw [beq_iff_eq]; omega
          have hiN : i = N := by
            rcases Nat.lt_or_ge i N with q | q
            · exact absurd hp (HSM.out i u q hu)
            · omega
          have HP2 : Hid (∀ W, Calls Tryd.prog 8 #[.string (x ++ ⟨u.text.toArray⟩)] W fun e w' => (∃ a n y b m z, e = .returned (.tuple #[.agg #[.slice a n y, .slice b m z], .int .i64 11, .int .i64 (p : Int)])) ∧ Below W.heap.size W w') := by
            rcases HEN.out with ⟨e1, _⟩ | ⟨t, e1, e2, e3, e4⟩
            · omega
            · rw [← hiN, hu] at e1
              obtain rfl := Option.some.inj e1
              have hdat : (x ++ ⟨u.text.toArray⟩ : ByteArray).data.toList = s.data.toList.take p ++ u.text := by
                rw [bytes_append, hx]
              intro W
              refine (HC.out.parse _ W ?_).mono fun e w' ⟨⟨v, c, q, he, hA⟩, hb⟩ => ⟨?_, hb⟩
              · rw [Lib.size_eq, hdat, List.length_append, List.length_take]
                have := HU16.out u (List.mem_of_getElem? hu)
                omega
              · obtain ⟨a, n, y, b, m, z, rfl⟩ := ans_form hA
                unfold ParseA at hA
                rw [hdat, e3] at hA
                dsimp only at hA
                rw [e4] at hA
                obtain ⟨_, rfl, rfl⟩ := hA
                refine ⟨a, n, y, b, m, z, ?_⟩
                rw [he, show place (s.data.toList.take p ++ u.text).length [u] = p from hp]
                rfl
          have hsum : x.size + (⟨u.text.toArray⟩ : ByteArray).size ≤ 9223372036854775807 := by
            have h1 := HU16.out u (List.mem_of_getElem? hu)
            have e1 : (⟨u.text.toArray⟩ : ByteArray).size = u.text.length := by show u.text.toArray.size = _; simp
            rw [e1, Lib.size_eq, hx, List.length_take]
            omega
          have HPU := Hid.intro hp
          have HIN := Hid.intro hiN
          clear hp hiN hu
          go_wp2_with fail
          have hadd : ∀ W, (Op.stringOp .add x ⟨u.text.toArray⟩).run Tryd.prog W = .ok (.string (x ++ ⟨u.text.toArray⟩)) W := fun W => run_string_add_sum W x _ hsum
          clear hsum
          have bw : b < wr.heap.size := hbl
          have bn0 : b ≠ wr.heap.size := by omega
          have bn1 : wr.heap.size ≠ b := by omega
          have bnn := World.new_ne wr ⟨b, off + i * 4 + 1, none⟩ k1
          go_region_held (fun w' => w'.cell? ⟨b, off + i * 4 + 1, none⟩ = some (.string ⟨u.text.toArray⟩)) (go_keep)
            (first | (go_at_call 8; refine (HP2.out _).mono ?_; rintro e w4 ⟨⟨qa, qn, qx, qb, qm, qy, rfl⟩, hb4⟩; have l4 := hb4.size; (try simp at l4); have k4 := (hb4.cell (p := ⟨b, off + i * 4 + 1, none⟩) (by first | omega | (simp; omega))).trans (show _ = some (.string ⟨u.text.toArray⟩) by go_simp); have bw4 : b < w4.heap.size := (by omega); have bn : b ≠ w4.heap.size := (by omega); have bn2 : w4.heap.size ≠ b := (by omega); (refine (fun (z0 : w4.cell? ⟨wr.heap.size, 0, none⟩ = some (.slice none 0 0)) => ?_) ?_); rotate_left; (focus ((refine (hb4.cell (p := ⟨wr.heap.size, 0, none⟩) ?_).trans ?_); (focus (simp; done)); (focus (go_simp; done)))); (refine (fun (z1 : w4.cell? ⟨wr.heap.size, 1, none⟩ = some (.slice none 0 0)) => ?_) ?_); rotate_left; (focus ((refine (hb4.cell (p := ⟨wr.heap.size, 1, none⟩) ?_).trans ?_); (focus (simp; done)); (focus (go_simp; done)))); (refine (fun (y0 : w4.frozen? ⟨wr.heap.size, 0, none⟩ = false) => ?_) ?_); rotate_left; (focus ((refine (hb4.frozen (p := ⟨wr.heap.size, 0, none⟩) ?_).trans ?_); (focus (simp; done)); (focus (go_simp; done)))); (refine (fun (y1 : w4.frozen? ⟨wr.heap.size, 1, none⟩ = false) => ?_) ?_); rotate_left; (focus ((refine (hb4.frozen (p := ⟨wr.heap.size, 1, none⟩) ?_).trans ?_); (focus (simp; done)); (focus (go_simp; done)))); have zl : wr.heap.size < w4.heap.size := (by omega)) | (go_at_call 8; refine (HP2.out _).mono ?_; rintro e w4 ⟨⟨qa, qn, qx, qb, qm, qy, rfl⟩, hb4⟩; have l4 := hb4.size; (try simp at l4); have k4 := (hb4.cell (p := ⟨b, off + i * 4 + 1, none⟩) (by first | omega | (simp; omega))).trans (show _ = some (.string ⟨u.text.toArray⟩) by go_simp); have bw4 : b < w4.heap.size := (by omega); have bn : b ≠ w4.heap.size := (by omega); have bn2 : w4.heap.size ≠ b := (by omega)))
          all_goals
            have lw := HB3.out.size
            (try simp only [Exit.then])
            go_wp2_with fail
            go_ret
            refine ⟨by first | rfl | (simp; done), ?_⟩
            repeat (first | with_reducible exact HB3.out | with_reducible refine ba ?_ | with_reducible refine Below.drew ?_ | with_reducible refine Below.setCell ?_ (by first | (dsimp only; omega) | omega) _ | with_reducible refine bl2 ?_ hb4)
        · have hp' : ((u.pos : Int) == (p : Int)) = false := by rw [beq_eq_false_iff_ne]; omega
          have hiN : i + 1 ≤ N := by
            rcases Nat.lt_or_ge i N with q | q
            · omega
            · exfalso
              have hiN : i = N := by omega
              rcases HEN.out with ⟨e1, _⟩ | ⟨t, e1, e2, _⟩
              · omega
              · rw [← hiN, hu] at e1
                rw [Option.some.inj e1] at hp
                exact hp e2.symm
          go_wp2_with fail
          go_roundw
          case rel => first | exact ⟨i + 1, hiN, by go_num, rfl⟩ | exact ⟨i + 1, hiN, by go_num, trivial⟩
          case measure => simp [intOf]; omega
      · have c' : ¬ (i : Int) < (m : Int) := by omega
        have hps : ((p : Int) == (s.size : Int)) = true := by
          rcases HEN.out with ⟨_, e2⟩ | ⟨t, e1, _⟩
          · rw [beq_iff_eq]; omega
          · have := (List.getElem?_eq_some_iff.1 e1).1
            rw [HLN.out] at this
            omega
        go_wp2_with fail
        go_ret
        exact ⟨by first | rfl | exact ret_bool (by rw [hps]), HB3.out⟩
  · have hc' : ((c : Int) == 11) = false := by rw [beq_eq_false_iff_ne]; omega
    clear hc
    go_wp2
    go_ret
    exact ⟨rfl, ba HB.out⟩
end Go.Proofs.YtlkidgilhlpjhaaDoor
