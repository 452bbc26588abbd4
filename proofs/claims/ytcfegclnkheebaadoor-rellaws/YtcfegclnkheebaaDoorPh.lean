/-
  The walks of the program's own free and Order.
-/
import Derived.Test.YtcfegclnkheebaaDoorPg
import Derived.Test.YtcfegclnkheebaaDoorK
namespace Go.Proofs.YtcfegclnkheebaaDoor
open Go.RowKit

theorem cnt_pos {n k : Nat} {G : Nat → Bool} (hk : k < n) (h : G k = false) : 0 < cnt n G := by
  have := cnt_put hk h; omega
theorem cnt_all {n : Nat} {G : Nat → Bool} (h : ∀ b, b < n → G b = true) : cnt n G = 0 := by
  unfold cnt
  rw [List.length_eq_zero_iff, List.filter_eq_nil_iff]
  intro b hb
  rw [h b (List.mem_range.1 hb)]; simp
theorem cnt_nil (n : Nat) : cnt n (fun b => ([] : List Nat).contains b) = n := by
  unfold cnt
  rw [List.filter_eq_self.2 (fun b _ => by simp)]
  exact List.length_range
theorem cnt_snoc {n k : Nat} {l : List Nat} (hk : k < n) (h : l.contains k = false) : cnt n (fun b => (l ++ [k]).contains b) + 1 = cnt n (fun b => l.contains b) := by
  rw [← cnt_put hk h]
  congr 1
  apply cnt_congr
  intro b _
  rw [Bool.eq_iff_iff]; simp
/-- The bits of those that aren't told yet. -/
def Rest2 (n : Nat) (l : List Nat) (x : Nat) : Prop := x < 18446744073709551616 ∧ ∀ j, x.testBit j = (decide (j < n) && !l.contains j)
theorem Rest2.first {n : Nat} (h : n ≤ 64) : Rest2 n [] (msk n) := ⟨msk_lt h, fun j => by rw [msk_bit]; simp⟩
theorem Rest2.next {n : Nat} {l : List Nat} {x k : Nat} (h : Rest2 n l x) : Rest2 n (l ++ [k]) (clr x (2 ^ k)) := ⟨clr_lt h.1, fun j => by
  rw [clr_bit h.1, h.2 j, Nat.testBit_two_pow]
  by_cases e : k = j
  · subst e; simp
  · have e' : ¬ j = k := fun e'' => e e''.symm
    rw [decide_eq_false e]
    have : (l ++ [k]).contains j = l.contains j := by rw [Bool.eq_iff_iff]; simp [e']
    rw [this]; simp⟩
theorem clr_less {x k : Nat} (h : x.testBit k = true) (hx : x < 18446744073709551616) : clr x (2 ^ k) < x := by
  have h1 : clr x (2 ^ k) ≤ x := by unfold clr; exact Nat.and_le_left
  have h2 : clr x (2 ^ k) ≠ x := fun e => by
    have := clr_bit (y := 2 ^ k) hx k
    rw [e, h, Nat.testBit_two_pow] at this; simp at this
  omega
theorem free_bits {R : Nat → Nat → Bool} {n i : Nat} {l : List Nat} {x z : Nat} (hi : i < n) (hx : Rest2 n l x) (hz : ∀ b, z.testBit b = (decide (b < n) && R b i)) : freeB R n l i = (x.testBit i && decide (z &&& x = 0)) := by
  rw [Bool.eq_iff_iff, freeB_iff, Bool.and_eq_true, hx.2 i, decide_eq_true hi, Bool.true_and, decide_eq_true_iff]
  have c : ∀ j, (l.contains j = false) ↔ j ∉ l := fun j => by simp
  constructor
  · rintro ⟨h1, h2⟩
    refine ⟨by rw [(c i).2 h1]; rfl, zero_bits fun j => ?_⟩
    rw [Nat.testBit_and, hz j, hx.2 j]
    by_cases hj : j < n
    · by_cases hl : j ∈ l
      · have : l.contains j = true := by simpa using hl
        rw [this]; simp
      · rw [h2 j hj hl]; simp
    · rw [decide_eq_false hj]; simp
  · rintro ⟨h1, h2⟩
    refine ⟨(c i).1 (by simpa using h1), fun j hj hl => ?_⟩
    have : (z &&& x).testBit j = false := by rw [h2]; simp
    rw [Nat.testBit_and, hz j, hx.2 j, decide_eq_true hj, (c j).2 hl] at this
    simpa using this

set_option maxHeartbeats 1600000 in
theorem free_of (v : Value) (zs l : List Nat) (n x : Nat) (R : Nat → Nat → Bool) (w : World) (hs : Sl w v zs) (hz : Bits n (fun a b => R b a) zs) (n64 : n ≤ 64) (hx : Rest2 n l x) :
    Calls Tryd.prog 45 #[v, .int .u64 x] w fun e w' => ∃ (m : Nat) (ok : Bool), e = .returned (.tuple #[.int .i64 m, .bool ok]) ∧ Hid ((ok = true → m = leastFrom R n l n ∧ m < n) ∧ (ok = false → ¬ leastFrom R n l n < n)) ∧ w' = w := by
  have hl := hz.1
  have fx := hx.1
  have hul : ∃ a cap, v = .slice a n cap := by obtain ⟨_, _, a, cap, e, _⟩ := hs; exact ⟨a, cap, by rw [e, hl]⟩
  obtain ⟨a, cap, rfl⟩ := hul
  have HX : Hid (Rest2 n l x) := hx
  clear hx
  go_enter Tryd.func45, Tryd.ntmps45
  go_wp2_with fail
  go_loopw [10] (fun s wr => ∃ (i : Nat), i ≤ n ∧ s = .int .i64 i ∧ Hid (leastFrom R n l (n - i) = leastFrom R n l n) ∧ wr = w) (fun s _ => n - (intOf s).toNat)
  case atStart => exact ⟨0, Nat.zero_le _, rfl, rfl, rfl⟩
  case round =>
    obtain ⟨i, hin, rfl, HI, rfl⟩ := hrel
    by_cases hlt : i < n
    · have hlt' : (i : Int) < (n : Int) := by omega
      have fy := hz.2.1 i
      have ry := hz.read hlt
      obtain ⟨b1, o1, cp1, e0, kc⟩ := hs.at (i := i) (by omega)
      simp only [Value.slice.injEq] at e0
      obtain ⟨rfl, -, rfl⟩ := e0
      obtain ⟨y, hy⟩ : ∃ y, zs.getD i 0 = y := ⟨_, rfl⟩
      rw [hy] at kc fy ry
      have i64 : i < 64 := by omega
      obtain ⟨z, hzz⟩ : ∃ z, z = 2 ^ i := ⟨_, rfl⟩
      have HZ : Hid (z = 2 ^ i) := hzz
      have fz : z < 18446744073709551616 := by rw [hzz]; exact pow_lt64 i64
      obtain ⟨p, hp⟩ : ∃ p, x &&& z = p := ⟨_, rfl⟩
      have e1 : bits .and .u64 (x : Int) (z : Int) = (p : Int) := by rw [bits_and_u64_nat x z fx fz, hp]
      obtain ⟨q, hq⟩ : ∃ q, y &&& x = q := ⟨_, rfl⟩
      have e2 : bits .and .u64 (y : Int) (x : Int) = (q : Int) := by rw [bits_and_u64_nat y x fy fx, hq]
      have e3 : ((p : Int) != 0) = x.testBit i := by
        rw [Bool.eq_iff_iff, ← nz_and, ← HZ.out, hp, bne_iff_ne]; omega
      have e4 : ((q : Int) == 0) = decide (y &&& x = 0) := by
        rw [hq, Bool.eq_iff_iff, beq_iff_eq, decide_eq_true_iff]; omega
      have fb := free_bits hlt HX.out ry
      obtain ⟨d, hd⟩ : ∃ d, n - i = d + 1 := ⟨n - i - 1, by omega⟩
      have ly := leastFrom_yes (R := R) (n := n) (l := l) (d := d)
      have ln := leastFrom_no (R := R) (n := n) (l := l) (d := d)
      rw [show n - (d + 1) = i by omega] at ly ln
      have hi := HI.out
      rw [hd] at hi
      have LY : Hid (freeB R n l i = true → i = leastFrom R n l n ∧ i < n) := fun h => ⟨by rw [← hi, ly h], hlt⟩
      have LN : Hid (freeB R n l i = false → leastFrom R n l (n - (i + 1)) = leastFrom R n l n) := fun h => by
        rw [← hi, ln h, show n - (i + 1) = d by omega]
      clear hy hzz hp hq ry ly ln hi hd hl
      cases hb1 : x.testBit i
      · rw [hb1] at e3 fb
        have N : Hid (leastFrom R n l (n - (i + 1)) = leastFrom R n l n) := LN.out (by rw [fb]; rfl)
        clear fb hb1 e4 e2
        go_wp2_with (go_at_call 40; refine (bit_of i z _ i64 HZ).mono ?_; rintro e w' ⟨rfl, hw⟩; subst w')
        go_roundw
        case rel => exact ⟨i + 1, by omega, by go_num, N, trivial⟩
        case measure => simp [intOf]; omega
      · rw [hb1] at e3 fb
        cases hb2 : decide (y &&& x = 0)
        · rw [hb2] at e4 fb
          have N : Hid (leastFrom R n l (n - (i + 1)) = leastFrom R n l n) := LN.out (by rw [fb]; rfl)
          clear fb hb1 hb2
          go_wp2_with (go_at_call 40; refine (bit_of i z _ i64 HZ).mono ?_; rintro e w' ⟨rfl, hw⟩; subst w')
          go_roundw
          case rel => exact ⟨i + 1, by omega, by go_num, N, trivial⟩
          case measure => simp [intOf]; omega
        · rw [hb2] at e4 fb
          have Y : Hid (i = leastFrom R n l n ∧ i < n) := LY.out (by rw [fb]; rfl)
          clear fb hb1 hb2
          go_wp2_with (go_at_call 40; refine (bit_of i z _ i64 HZ).mono ?_; rintro e w' ⟨rfl, hw⟩; subst w')
          go_ret2
          exact ⟨i, true, rfl, ⟨fun _ => Y.out, fun h => by simp at h⟩, rfl⟩
    · go_wp2_with fail
      go_ret2
      have e : i = n := by omega
      subst e
      refine ⟨0, false, rfl, ⟨fun h => by simp at h, fun _ => ?_⟩, rfl⟩
      have := HI.out
      rw [Nat.sub_self] at this
      rw [← this]; unfold leastFrom; omega

set_option maxHeartbeats 1600000 in
theorem order_of (u : Value) (xs : List Nat) (w : World) (hu : Sl w u xs) (tab : Tab w) :
    Calls Tryd.prog 23 #[u] w fun e w' => Below w.heap.size w w' ∧ ((ordL (fun i k => hasB xs i k) (sz xs) = none ∧ e = .returned (.tuple #[.slice none 0 0, .bool false])) ∨
      ∃ v l, ordL (fun i k => hasB xs i k) (sz xs) = some l ∧ e = .returned (.tuple #[v, .bool true]) ∧ Que w' w.heap.size v l ∧ l.length = sz xs) := by
  have n64 := sz_le xs
  have T := back_of u xs w hu tab
  obtain ⟨n, hn⟩ : ∃ n, sz xs = n := ⟨_, rfl⟩
  obtain ⟨R, hR⟩ : ∃ F : Nat → Nat → Bool, F = fun (i k : Nat) => hasB xs i k := ⟨_, rfl⟩
  have T2 : Calls Tryd.prog 21 #[u] w fun e w' => ∃ g zs, e = .returned (.slice (some ⟨g, 0, none⟩) zs.length zs.length) ∧ OwnU w' g zs ∧ Bits n (fun a b => R b a) zs ∧ w.heap.size ≤ g ∧ Below w.heap.size w w' := by rw [hR, ← hn]; exact T
  rw [hn, ← hR]
  rw [hn] at n64
  obtain ⟨i0, hi, hz0, hz1, hz2⟩ := info_parts Tryd.info3
  clear T hR hn hu
  go_enter Tryd.func23, Tryd.ntmps23
  go_wp2_with fail
  refine T2.mono ?_
  rintro e w1 ⟨g, bs, rfl, ho, hbits, hg, hb1⟩
  have lb := hbits.1
  rw [lb]
  clear T2
  obtain ⟨z, hz⟩ : ∃ z, z = msk n := ⟨_, rfl⟩
  have HZ : Hid (z = msk n) := hz
  have R0 : Hid (Rest2 n [] z) := by rw [hz]; exact Rest2.first n64
  clear hz
  go_wp2_with (first | (at_make; refine wpList_make_own _ rfl _ _ 31 rfl w.heap.size 3 i0 (.int .i64 0) 1 Tryd.underlying31 hi hz0 hz1 .i64 .i64 _ n rfl rfl rfl (by rw [hz2]; omega) (by unfold maxLen; omega) hb1.size ?_; intro w2 hown hgrow) | (go_at_call 44; refine (first_of n z _ n64 HZ).mono ?_; rintro e w' ⟨rfl, hw⟩; subst w'))
  have hb2 : Below w1.heap.size w1 w2 := (Below.refl _ _).grown hgrow (Nat.le_refl _) (fun k e => by simp at e)
  have hq : Que w2 w.heap.size (.slice (some ⟨w1.heap.size, 0, none⟩) 0 n) [] := Que.ofRow (n := 0) hown rfl
  have ho2 := ho.below hb2 ho.lt
  have hb := hb1.trans (hb2.mono hb1.size)
  generalize w1.heap.size = h at hq
  clear hown hgrow hi hz0 hz1 hz2 ho hb1 hb2
  have hord : Hid (ordF R n (n - ([] : List Nat).length) [] = ordL R n) := rfl
  have hcnt : Hid (([] : List Nat).length + cnt n (fun b => ([] : List Nat).contains b) = n) := by
    show 0 + cnt n (fun b => ([] : List Nat).contains b) = n
    rw [cnt_nil, Nat.zero_add]
  go_loopw [5, 6] (fun s t wr => ∃ (l : List Nat) (x : Nat), t = .int .u64 x ∧ Que wr w.heap.size s l ∧ OwnU wr g bs ∧ Hid (Rest2 n l x) ∧ Hid (l.length + cnt n (fun b => l.contains b) = n) ∧ Hid (ordF R n (n - l.length) l = ordL R n) ∧ Below w.heap.size w wr) (fun _ t _ => (intOf t).toNat)
  case atStart => exact ⟨[], z, rfl, hq, ho2, R0, hcnt, hord, hb⟩
  case round =>
    clear hq ho2 hb hord hcnt R0
    obtain ⟨l, x, rfl, hq, ho, HX, HC, HO, hb⟩ := hrel
    have fx := HX.out.1
    by_cases hx : x = 0
    · subst hx
      go_wp2_with fail
      go_ret2
      refine ⟨hb, Or.inr ⟨_, l, ?_, rfl, hq, ?_⟩⟩
      all_goals
        have h0 : cnt n (fun b => l.contains b) = 0 := cnt_all (fun b hbn => by
          have := HX.out.2 b
          rw [decide_eq_true hbn] at this
          simpa using this)
        have h1 := HC.out
        have h2 : l.length = n := by omega
      · have := HO.out
        rw [h2, Nat.sub_self] at this
        rw [← this]; rfl
      · exact h2
    · have hx' : ((x : Int) != 0) = true := by rw [bne_iff_ne]; omega
      have hsl : Sl wr (.slice (some ⟨g, 0, none⟩) n n) bs := by have := Sl.own ho hbits.2.1 (by omega) n; rw [lb] at this; exact this
      have F := free_of _ bs l n x R wr hsl hbits n64 HX.out
      clear lb hsl
      have less : Hid (l.length < n) := by
        have h1 := HC.out
        have : ∃ j, x.testBit j = true := Classical.byContradiction fun hc => hx (zero_bits fun j => by
          cases e : x.testBit j
          · rfl
          · exact absurd ⟨j, e⟩ hc)
        obtain ⟨j, hj⟩ := this
        rw [HX.out.2 j] at hj
        simp only [Bool.and_eq_true, decide_eq_true_eq, Bool.not_eq_true'] at hj
        have := cnt_pos (G := fun b => l.contains b) hj.1 hj.2
        show _ < _
        omega
      go_wp2_with fail
      refine F.mono ?_
      rintro e w' ⟨m, ok, rfl, HM, hw⟩
      subst w'
      clear F
      cases ok
      · have NO : Hid (¬ leastFrom R n l n < n) := HM.out.2 rfl
        clear HM
        go_wp2_with fail
        go_ret2
        refine ⟨hb, Or.inl ⟨?_, rfl⟩⟩
        have h1 := less.out
        rw [← HO.out, show n - l.length = (n - l.length - 1) + 1 by omega, ordF_none NO.out]
      · obtain ⟨hm, hmn⟩ := HM.out.1 rfl
        have m64 : m < 64 := by omega
        obtain ⟨z, hz⟩ : ∃ z, z = 2 ^ m := ⟨_, rfl⟩
        have HZ : Hid (z = 2 ^ m) := hz
        have fz : z < 18446744073709551616 := by rw [hz]; exact pow_lt64 m64
        obtain ⟨x2, hx2⟩ : ∃ x2, clr x z = x2 := ⟨_, rfl⟩
        have e1 : bits .andNot .u64 (x : Int) (z : Int) = (x2 : Int) := by rw [bits_clr x z fx fz, hx2]
        have fr : freeB R n l m = true := by
          have sp := leastFrom_spec R n l n (Nat.le_refl _)
          rw [← hm] at sp
          exact (sp.2.1 hmn).2
        have hnl : l.contains m = false := by simpa using (freeB_iff.1 fr).1
        have X2 : Hid (Rest2 n (l ++ [m]) x2) := by rw [← hx2, hz]; exact HX.out.next
        have lt2 : x2 < x := by
          rw [← hx2, hz]
          exact clr_less (by rw [HX.out.2 m, decide_eq_true hmn, hnl]; rfl) fx
        have C2 : Hid ((l ++ [m]).length + cnt n (fun b => (l ++ [m]).contains b) = n) := by
          have h1 := cnt_snoc hmn hnl
          have h2 := HC.out
          show _ = _
          rw [List.length_append, List.length_singleton]
          omega
        have O2 : Hid (ordF R n (n - (l ++ [m]).length) (l ++ [m]) = ordL R n) := by
          have h1 := less.out
          have ho1 := HO.out
          rw [show n - l.length = (n - (l.length + 1)) + 1 by omega, ordF_some (by rw [← hm]; exact hmn), ← hm] at ho1
          show _ = _
          rw [List.length_append, List.length_singleton]; exact ho1
        have l64 : l.length ≤ 1000000 := by have := less.out; omega
        clear hz hx2 fr hnl hm HM
        go_wp2_with (first | (go_at_call 40; refine (bit_of m z _ m64 HZ).mono ?_; rintro e w' ⟨rfl, hw⟩; subst w') | (at_builtin; refine wpList_append_que _ rfl _ _ rfl w.heap.size _ l rfl (hq.alloc _) wr.heap.size 1 m rfl (by go_simp) l64 (by have := hb.size; simp; omega) ?_; intro v' w3 hq3 hg3))
        go_roundw
        case rel => exact ⟨l ++ [m], x2, rfl, hq3, hg3.own (ho.alloc _), X2, C2, O2, hg3.below (hb.alloc hb.size _) (Nat.le_refl _) (by have := hb.size; simp; omega)⟩
        case measure => simp [intOf]; omega
end Go.Proofs.YtcfegclnkheebaaDoor
