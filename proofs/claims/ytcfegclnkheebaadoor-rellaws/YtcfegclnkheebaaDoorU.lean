/-
  The walk of the statement RelLaws over contracts of the program's own functions.
-/
import Derived.Test.YtcfegclnkheebaaDoorQ
import Derived.Maps.AppendAt
import Derived.Deep.Cut
namespace Go.Proofs.YtcfegclnkheebaaDoor
open Go.RowKit

theorem row_below {w w' : World} {base e size n : Nat} {v : Value} {xs : List Value} (h : w.ownsRow base e size v n xs) (hb : Below w.heap.size w w') : w'.ownsRow base e size v n xs := by
  refine ⟨h.1, ?_⟩
  rcases h.2 with h' | ⟨g, cap, cur, e1, e2, e3, e4⟩
  · exact Or.inl h'
  · exact Or.inr ⟨g, cap, cur, e1, e2, (hb.block g (lt_of_block e3)).trans e3, e4⟩
/-- Two slices do not lie in one block. -/
def Apart (u v : Value) : Prop := u.ownBlock = none ∨ v.ownBlock = none ∨ u.ownBlock ≠ v.ownBlock
theorem Apart.symm {u v : Value} (h : Apart u v) : Apart v u := by
  rcases h with h | h | h
  · exact Or.inr (Or.inl h)
  · exact Or.inl h
  · exact Or.inr (Or.inr h.symm)
def Pad (w : World) (B : Nat) (v : Value) (zs : List Nat) : Prop := w.ownsRow B 43 1 v zs.length (vals zs)
theorem Pad.lt {w : World} {B : Nat} {v : Value} {zs : List Nat} (h : Pad w B v zs) {k : Nat} (hk : v.ownBlock = some k) : k < w.heap.size := (World.ownsRow.lt h k hk).2
theorem Pad.form {w : World} {B : Nat} {v : Value} {zs : List Nat} (h : Pad w B v zs) : ∃ a cap, v = .slice a zs.length cap := by
  rcases h.2 with ⟨h1, h2⟩ | ⟨g, cap, cur, h1, _⟩
  · exact ⟨none, 0, by rw [h1, h2]⟩
  · exact ⟨_, cap, h1⟩
theorem apart_base {w : World} {B B' : Nat} {u v : Value} {xs ys : List Nat} (w0 : World) (hu0 : Pad w0 B u xs) (hb : w0.heap.size ≤ B') (hv : Pad w B' v ys) : Apart u v := by
  cases e : u.ownBlock with
  | none => exact Or.inl e
  | some k =>
    cases e' : v.ownBlock with
    | none => exact Or.inr (Or.inl e')
    | some j =>
      refine Or.inr (Or.inr ?_)
      rw [e, e']
      intro h
      rw [Option.some.injEq] at h
      have h1 := hu0.lt e
      have h2 := (hv.lt (k := j) e')
      have h3 := (World.ownsRow.lt hv j e').1
      omega
theorem pad_step {wr w1 : World} {o : Obj} {B : Nat} {v v' u : Value} {ys : List Nat} (hu : Pad wr B u ys) (ap : Apart v u) (hg : (wr.alloc o).grownBy w1 v.ownBlock) (hl : v'.ownBlock = v.ownBlock ∨ v'.ownBlock = some (wr.alloc o).heap.size) : Pad w1 B u ys ∧ Apart v' u := by
  refine ⟨(World.ownsRow.alloc hu o).kept hg ?_, ?_⟩
  · rcases ap with h | h | h
    · cases e : u.ownBlock with
      | none => exact Or.inl rfl
      | some k => exact Or.inr (by rw [h]; simp)
    · exact Or.inl h
    · exact Or.inr h.symm
  · rcases hl with h | h
    · unfold Apart; rw [h]; exact ap
    · cases e : u.ownBlock with
      | none => exact Or.inr (Or.inl e)
      | some k =>
        refine Or.inr (Or.inr ?_)
        rw [h, e]
        intro hh
        rw [Option.some.injEq] at hh
        have := Pad.lt hu e
        simp at hh
        omega
theorem via_congr {A A' B B' : Nat → Nat → Bool} {N a b : Nat} (hA : ∀ i k, i < N → k < N → A i k = A' i k) (hB : ∀ i k, i < N → k < N → B i k = B' i k) (ha : a < N) (hb : b < N) : viaB A B N a b = viaB A' B' N a b := by
  rw [Bool.eq_iff_iff, viaB_iff, viaB_iff]
  constructor
  · rintro ⟨j, hj, h1, h2⟩; exact ⟨j, hj, by rw [← hA a j ha hj]; exact h1, by rw [← hB j b hj hb]; exact h2⟩
  · rintro ⟨j, hj, h1, h2⟩; exact ⟨j, hj, by rw [hA a j ha hj]; exact h1, by rw [hB j b hj hb]; exact h2⟩
theorem crefl (z : List Nat) (N : Nat) : ∀ i k, i < N → k < N → relB z i k = relB z i k := fun _ _ _ _ => rfl
theorem or_eq {a b c d : Bool} (h1 : a = c) (h2 : b = d) : (a || b) = (c || d) := by rw [h1, h2]
theorem andnot_eq {a b c d : Bool} (h1 : a = c) (h2 : b = d) : (a && !b) = (c && !d) := by rw [h1, h2]
theorem same_of {n : Nat} {G H : Nat → Nat → Bool} {xs ys : List Nat} (hx : Bits n G xs) (hy : Bits n H ys) (hn : n ≤ 64) (h : ∀ i k, i < n → k < n → relB xs i k = relB ys i k) : xs = ys :=
  hx.same (hy.congr (fun a b ha hb => by rw [← hy.rel hn ha hb, ← h a b ha hb, hx.rel hn ha hb]))
def lenOf : Value → Nat
  | .slice _ n _ => n
  | _ => 0
theorem fits_snoc {zs : List Nat} (h : Fits zs) : Fits (zs ++ [0]) := by
  intro i
  by_cases hi : i < zs.length
  · rw [getD_snoc hi]; exact h i
  · by_cases e : i = zs.length
    · subst e; rw [getD_last]; omega
    · rw [List.getD_eq_getElem?_getD, List.getElem?_eq_none (by simp; omega)]; simp

set_option maxRecDepth 4000 in
set_option maxHeartbeats 4000000 in
theorem relLaws_walk (C : Rel2) (awake : Awake) (a_a a_b a_c : Option Addr) (cap_a cap_b cap_c : Nat) (zs_a zs_b zs_c : List Nat) (w : World) (tab : Tab w) (s_a : Sl w (.slice a_a zs_a.length cap_a) zs_a) (s_b : Sl w (.slice a_b zs_b.length cap_b) zs_b) (s_c : Sl w (.slice a_c zs_c.length cap_c) zs_c) (hc_a : zs_a.length ≤ cap_a) (hc_b : zs_b.length ≤ cap_b) (hc_c : zs_c.length ≤ cap_c) (hz_a : a_a = none → cap_a = 0) (hz_b : a_b = none → cap_b = 0) (hz_c : a_c = none → cap_c = 0) :
    Calls Tryd.prog 7 #[.slice a_a zs_a.length cap_a, .slice a_b zs_b.length cap_b, .slice a_c zs_c.length cap_c] w fun e w' => e = .returned (.bool true) ∧ Below w.heap.size w w' := by
  go_enter Tryd.func7, Tryd.ntmps7
  have l0 := Below.refl w.heap.size w
  go_wp2_with fail
  refine (awake _ tab).mono ?_
  rintro e w1 ⟨rfl, l1⟩
  have s_a := s_a.below l1
  have s_b := s_b.below l1
  have s_c := s_c.below l1
  obtain ⟨i0, hi, hz0, hz1, hz2⟩ := info_parts Tryd.info43
  go_wp2_with fail
  refine (few_any a_a cap_a zs_a _ s_a hc_a hz_a).mono ?_
  rintro e w2 ⟨v_a, rfl, o_a, l2, s_a'⟩
  have s_b := s_b.below l2
  have s_c := s_c.below l2
  have f_a := s_a'.1
  have o_a : Pad w2 w1.heap.size v_a (zs_a.take 70) := o_a
  have q_a := o_a
  clear s_a'
  go_wp2_with fail
  refine (few_any a_b cap_b zs_b _ s_b hc_b hz_b).mono ?_
  rintro e w3 ⟨v_b, rfl, o_b, l3, s_b'⟩
  have s_c := s_c.below l3
  have f_b := s_b'.1
  have o_b : Pad w3 w2.heap.size v_b (zs_b.take 70) := o_b
  have q_b := o_b
  clear s_b'
  have o_a : Pad w3 _ v_a _ := row_below o_a l3
  go_wp2_with fail
  refine (few_any a_c cap_c zs_c _ s_c hc_c hz_c).mono ?_
  rintro e w4 ⟨v_c, rfl, o_c, l4, s_c'⟩
  have f_c := s_c'.1
  have o_c : Pad w4 w3.heap.size v_c (zs_c.take 70) := o_c
  have q_c := o_c
  clear s_c'
  have o_a : Pad w4 _ v_a _ := row_below o_a l4
  have o_b : Pad w4 _ v_b _ := row_below o_b l4
  have m_a : (zs_a.take 70).length ≤ 70 := by rw [List.length_take]; omega
  have m_b : (zs_b.take 70).length ≤ 70 := by rw [List.length_take]; omega
  have m_c : (zs_c.take 70).length ≤ 70 := by rw [List.length_take]; omega
  have lw : Below w.heap.size w w4 := bt (bt (bt (bt (l0) l1) l2) l3) l4
  have ap_ab : Apart v_a v_b := apart_base _ q_a (Nat.le_refl _) o_b
  have ap_ac : Apart v_a v_c := apart_base _ q_a (by have := l3.size; omega) o_c
  have ap_bc : Apart v_b v_c := apart_base _ q_b (Nat.le_refl _) o_c
  have o_a : Pad w4 w.heap.size v_a _ := o_a.mono (by have := l1.size; omega)
  have o_b : Pad w4 w.heap.size v_b _ := o_b.mono (by have := l1.size; have := l2.size; omega)
  have o_c : Pad w4 w.heap.size v_c _ := o_c.mono (by have := l1.size; have := l2.size; have := l3.size; omega)
  generalize zs_a.take 70 = z_a at o_a q_a m_a f_a
  generalize zs_b.take 70 = z_b at o_b q_b m_b f_b
  generalize zs_c.take 70 = z_c at o_c q_c m_c f_c
  clear q_a q_b q_c s_a s_b s_c
  obtain ⟨ad_a, cp_a, rfl⟩ := o_a.form
  obtain ⟨ad_b, cp_b, rfl⟩ := o_b.form
  obtain ⟨ad_c, cp_c, rfl⟩ := o_c.form
  go_upto_region 4 with fail
  go_cut [7] from 17 (fun s wx => ∃ n : Nat, s = .int .i64 n ∧ z_a.length ≤ n ∧ z_b.length ≤ n ∧ z_c.length ≤ n ∧ n ≤ 70 ∧ wx = w4)
  case first =>
    clear hi hz0 hz1 hz2 o_a o_b o_c ap_ab ap_ac ap_bc f_a f_b f_c lw hc_a hc_b hc_c hz_a hz_b hz_c
    go_wp2_with fail
    all_goals
      go_meet
      case rel => first | exact ⟨z_a.length, rfl, by omega, by omega, by omega, by omega, rfl⟩ | exact ⟨z_b.length, rfl, by omega, by omega, by omega, by omega, rfl⟩ | exact ⟨z_c.length, rfl, by omega, by omega, by omega, by omega, rfl⟩
  case rest =>
    obtain ⟨n, rfl, na, nb, nc, n70, rfl⟩ := hcut
    clear m_a m_b m_c
    have m_a := na
    have m_b := nb
    have m_c := nc
    clear na nb nc
    go_wp2_with fail
    go_loopw [0] (fun s wr => ∃ zs : List Nat, Pad wr w.heap.size s zs ∧ Fits zs ∧ zs.length ≤ n ∧ Below w.heap.size w wr ∧ Pad wr w.heap.size (.slice ad_b z_b.length cp_b) z_b ∧ Pad wr w.heap.size (.slice ad_c z_c.length cp_c) z_c ∧ Apart s (.slice ad_b z_b.length cp_b) ∧ Apart s (.slice ad_c z_c.length cp_c)) (fun s _ => n - lenOf s)
    case atStart => exact ⟨z_a, o_a, f_a, m_a, lw, o_b, o_c, ap_ab, ap_ac⟩
    case round =>
      clear o_a f_a m_a lw o_b o_c ap_ab ap_ac
      obtain ⟨z_a, o_a, f_a, m_a, lw, o_b, o_c, ap_ab, ap_ac⟩ := hrel
      obtain ⟨ad_a, cp_a, rfl⟩ := o_a.form
      by_cases hlt_a : z_a.length < n
      · have hlt' : (z_a.length : Int) < (n : Int) := by omega
        have oa := World.ownsRow.alloc o_a (.cells #[.int .u64 0] 43)
        go_wp2_with (at_builtin; refine wpList_append_own_at _ rfl (.tmp 28) (.tmp 29) 23 rfl w.heap.size 43 i0 (.int .u64 0) 1 8 Tryd.underlying23 hi hz0 hz1 hz2 rfl (by decide) _ z_a.length (vals z_a) rfl oa ⟨wr.heap.size, 0, none⟩ 1 1 [Value.int .u64 0] rfl rfl (cell_one_new _ _ _) (by simp [Value.oneCell']) (by unfold maxLen; omega) (by omega) (by have := lw.size; simp; omega) ?_; intro v' w1 hown hgrow hnil hloc)
        obtain ⟨p_b, q_b⟩ := pad_step o_b ap_ab hgrow hloc
        obtain ⟨p_c, q_c⟩ := pad_step o_c ap_ac hgrow hloc
        have pn : Pad w1 w.heap.size v' (z_a ++ [0]) := by unfold Pad; rw [List.length_append, List.length_singleton, show vals (z_a ++ [0]) = vals z_a ++ [Value.int .u64 0] by simp [vals]]; exact hown
        have lw1 : Below w.heap.size w w1 := (lw.alloc lw.size _).grown hgrow (by have := lw.size; simp; omega) (fun k e => (World.ownsRow.lt o_a k e).1)
        obtain ⟨ax, cx, hvx⟩ := pn.form
        go_roundw
        case rel => exact ⟨z_a ++ [0], pn, fits_snoc f_a, by simp; omega, lw1, p_b, p_c, q_b, q_c⟩
        case measure => rw [hvx]; simp only [lenOf, List.length_append, List.length_singleton]; omega
      · have e_a : z_a.length = n := by omega
        have E_a : Hid (z_a.length = n) := e_a
        clear e_a
        go_wp2_with fail
        have ap_ba := ap_ab.symm
        go_loopw [1] (fun s wr => ∃ zs : List Nat, Pad wr w.heap.size s zs ∧ Fits zs ∧ zs.length ≤ n ∧ Below w.heap.size w wr ∧ Pad wr w.heap.size (.slice ad_a z_a.length cp_a) z_a ∧ Pad wr w.heap.size (.slice ad_c z_c.length cp_c) z_c ∧ Apart s (.slice ad_a z_a.length cp_a) ∧ Apart s (.slice ad_c z_c.length cp_c)) (fun s _ => n - lenOf s)
        case atStart => exact ⟨z_b, o_b, f_b, m_b, lw, o_a, o_c, ap_ba, ap_bc⟩
        case round =>
          clear o_b f_b m_b lw o_a o_c ap_ba ap_bc
          obtain ⟨z_b, o_b, f_b, m_b, lw, o_a, o_c, ap_ba, ap_bc⟩ := hrel
          obtain ⟨ad_b, cp_b, rfl⟩ := o_b.form
          by_cases hlt_b : z_b.length < n
          · have hlt' : (z_b.length : Int) < (n : Int) := by omega
            have oa := World.ownsRow.alloc o_b (.cells #[.int .u64 0] 43)
            go_wp2_with (at_builtin; refine wpList_append_own_at _ rfl (.tmp 35) (.tmp 36) 23 rfl w.heap.size 43 i0 (.int .u64 0) 1 8 Tryd.underlying23 hi hz0 hz1 hz2 rfl (by decide) _ z_b.length (vals z_b) rfl oa ⟨wr.heap.size, 0, none⟩ 1 1 [Value.int .u64 0] rfl rfl (cell_one_new _ _ _) (by simp [Value.oneCell']) (by unfold maxLen; omega) (by omega) (by have := lw.size; simp; omega) ?_; intro v' w1 hown hgrow hnil hloc)
            obtain ⟨p_a, q_a⟩ := pad_step o_a ap_ba hgrow hloc
            obtain ⟨p_c, q_c⟩ := pad_step o_c ap_bc hgrow hloc
            have pn : Pad w1 w.heap.size v' (z_b ++ [0]) := by unfold Pad; rw [List.length_append, List.length_singleton, show vals (z_b ++ [0]) = vals z_b ++ [Value.int .u64 0] by simp [vals]]; exact hown
            have lw1 : Below w.heap.size w w1 := (lw.alloc lw.size _).grown hgrow (by have := lw.size; simp; omega) (fun k e => (World.ownsRow.lt o_b k e).1)
            obtain ⟨ax, cx, hvx⟩ := pn.form
            go_roundw
            case rel => exact ⟨z_b ++ [0], pn, fits_snoc f_b, by simp; omega, lw1, p_a, p_c, q_a, q_c⟩
            case measure => rw [hvx]; simp only [lenOf, List.length_append, List.length_singleton]; omega
          · have e_b : z_b.length = n := by omega
            have E_b : Hid (z_b.length = n) := e_b
            clear e_b
            go_wp2_with fail
            have ap_ca := (show Apart _ _ from ap_ac).symm
            have ap_cb := ap_bc.symm
            go_loopw [2] (fun s wr => ∃ zs : List Nat, Pad wr w.heap.size s zs ∧ Fits zs ∧ zs.length ≤ n ∧ Below w.heap.size w wr ∧ Pad wr w.heap.size (.slice ad_a z_a.length cp_a) z_a ∧ Pad wr w.heap.size (.slice ad_b z_b.length cp_b) z_b ∧ Apart s (.slice ad_a z_a.length cp_a) ∧ Apart s (.slice ad_b z_b.length cp_b)) (fun s _ => n - lenOf s)
            case atStart => exact ⟨z_c, o_c, f_c, m_c, lw, o_a, o_b, ap_ca, ap_cb⟩
            case round =>
              clear o_c f_c m_c lw o_a o_b ap_ca ap_cb
              obtain ⟨z_c, o_c, f_c, m_c, lw, o_a, o_b, ap_ca, ap_cb⟩ := hrel
              obtain ⟨ad_c, cp_c, rfl⟩ := o_c.form
              by_cases hlt_c : z_c.length < n
              · have hlt' : (z_c.length : Int) < (n : Int) := by omega
                have oa := World.ownsRow.alloc o_c (.cells #[.int .u64 0] 43)
                go_wp2_with (at_builtin; refine wpList_append_own_at _ rfl (.tmp 42) (.tmp 43) 23 rfl w.heap.size 43 i0 (.int .u64 0) 1 8 Tryd.underlying23 hi hz0 hz1 hz2 rfl (by decide) _ z_c.length (vals z_c) rfl oa ⟨wr.heap.size, 0, none⟩ 1 1 [Value.int .u64 0] rfl rfl (cell_one_new _ _ _) (by simp [Value.oneCell']) (by unfold maxLen; omega) (by omega) (by have := lw.size; simp; omega) ?_; intro v' w1 hown hgrow hnil hloc)
                obtain ⟨p_a, q_a⟩ := pad_step o_a ap_ca hgrow hloc
                obtain ⟨p_b, q_b⟩ := pad_step o_b ap_cb hgrow hloc
                have pn : Pad w1 w.heap.size v' (z_c ++ [0]) := by unfold Pad; rw [List.length_append, List.length_singleton, show vals (z_c ++ [0]) = vals z_c ++ [Value.int .u64 0] by simp [vals]]; exact hown
                have lw1 : Below w.heap.size w w1 := (lw.alloc lw.size _).grown hgrow (by have := lw.size; simp; omega) (fun k e => (World.ownsRow.lt o_c k e).1)
                obtain ⟨ax, cx, hvx⟩ := pn.form
                go_roundw
                case rel => exact ⟨z_c ++ [0], pn, fits_snoc f_c, by simp; omega, lw1, p_a, p_b, q_a, q_b⟩
                case measure => rw [hvx]; simp only [lenOf, List.length_append, List.length_singleton]; omega
              · have e_c : z_c.length = n := by omega
                have E_c : Hid (z_c.length = n) := e_c
                clear e_c
                go_wp2_with fail
                obtain ⟨N, hN⟩ : ∃ N, min n 64 = N := ⟨_, rfl⟩
                have N64 : N ≤ 64 := by omega
                have s_a := Sl.ofRow o_a f_a (by have := E_a.out; omega)
                have y_a : sz z_a = N := by unfold sz; rw [E_a.out]; exact hN
                have s_b := Sl.ofRow o_b f_b (by have := E_b.out; omega)
                have y_b : sz z_b = N := by unfold sz; rw [E_b.out]; exact hN
                have s_c := Sl.ofRow o_c f_c (by have := E_c.out; omega)
                have y_c : sz z_c = N := by unfold sz; rw [E_c.out]; exact hN
                have lw0 := lw
                clear o_a o_b o_c f_a f_b f_c m_a m_b m_c ap_ca ap_cb hi hz0 hz1 hz2 E_a E_b E_c hlt_a hlt_b hlt_c hN
                go_wp2_with fail
                obtain ⟨G, hG, cG⟩ := C.plus _ _ _ s_a
                refine cG.mono ?_
                rintro e w11 ⟨v_p, z_p, rfl, s_p, b_p, l11⟩
                have s_a := s_a.below l11
                have s_b := s_b.below l11
                have s_c := s_c.below l11
                rw [y_a] at b_p hG
                have y_p : sz z_p = N := b_p.sz N64
                have c_p : ∀ i k, i < N → k < N → relB z_p i k = G i k := fun i k hi hk => (b_p.rel N64 hi hk).trans (rfl)
                go_wp2_with fail
                refine (C.thn _ _ _ _ _ s_a s_b).mono ?_
                rintro e w12 ⟨v_t1, z_t1, rfl, s_t1, b_t1, l12⟩
                have s_a := s_a.below l12
                have s_b := s_b.below l12
                have s_c := s_c.below l12
                have s_p := s_p.below l12
                rw [y_a, y_b, Nat.max_self] at b_t1
                have y_t1 : sz z_t1 = N := b_t1.sz N64
                have c_t1 : ∀ i k, i < N → k < N → relB z_t1 i k = viaB (relB z_a) (relB z_b) N i k := fun i k hi hk => (b_t1.rel N64 hi hk).trans (via_congr (crefl z_a N) (crefl z_b N) hi hk)
                go_wp2_with fail
                refine (C.thn _ _ _ _ _ s_t1 s_c).mono ?_
                rintro e w13 ⟨v_t2, z_t2, rfl, s_t2, b_t2, l13⟩
                have s_a := s_a.below l13
                have s_b := s_b.below l13
                have s_c := s_c.below l13
                have s_p := s_p.below l13
                have s_t1 := s_t1.below l13
                rw [y_t1, y_c, Nat.max_self] at b_t2
                have y_t2 : sz z_t2 = N := b_t2.sz N64
                have c_t2 : ∀ i k, i < N → k < N → relB z_t2 i k = viaB (viaB (relB z_a) (relB z_b) N) (relB z_c) N i k := fun i k hi hk => (b_t2.rel N64 hi hk).trans (via_congr c_t1 (crefl z_c N) hi hk)
                go_wp2_with fail
                refine (C.thn _ _ _ _ _ s_b s_c).mono ?_
                rintro e w14 ⟨v_t3, z_t3, rfl, s_t3, b_t3, l14⟩
                have s_a := s_a.below l14
                have s_b := s_b.below l14
                have s_c := s_c.below l14
                have s_p := s_p.below l14
                have s_t1 := s_t1.below l14
                have s_t2 := s_t2.below l14
                rw [y_b, y_c, Nat.max_self] at b_t3
                have y_t3 : sz z_t3 = N := b_t3.sz N64
                have c_t3 : ∀ i k, i < N → k < N → relB z_t3 i k = viaB (relB z_b) (relB z_c) N i k := fun i k hi hk => (b_t3.rel N64 hi hk).trans (via_congr (crefl z_b N) (crefl z_c N) hi hk)
                go_wp2_with fail
                refine (C.thn _ _ _ _ _ s_a s_t3).mono ?_
                rintro e w15 ⟨v_t4, z_t4, rfl, s_t4, b_t4, l15⟩
                have s_a := s_a.below l15
                have s_b := s_b.below l15
                have s_c := s_c.below l15
                have s_p := s_p.below l15
                have s_t1 := s_t1.below l15
                have s_t2 := s_t2.below l15
                have s_t3 := s_t3.below l15
                rw [y_a, y_t3, Nat.max_self] at b_t4
                have y_t4 : sz z_t4 = N := b_t4.sz N64
                have c_t4 : ∀ i k, i < N → k < N → relB z_t4 i k = viaB (relB z_a) (viaB (relB z_b) (relB z_c) N) N i k := fun i k hi hk => (b_t4.rel N64 hi hk).trans (via_congr (crefl z_a N) c_t3 hi hk)
                have e_t2 : z_t2 = z_t4 := same_of b_t2 b_t4 N64 (fun i k hi hk => (c_t2 i k hi hk).trans ((show (viaB (viaB (relB z_a) (relB z_b) N) (relB z_c) N) i k = (viaB (relB z_a) (viaB (relB z_b) (relB z_c) N) N) i k from via_assoc _ _ _ _ _ _).trans (c_t4 i k hi hk).symm))
                go_wp2_with fail
                refine (refSame_any _ _ _ _ _ s_t2 s_t4).mono ?_
                rintro e w16 ⟨rfl, l16⟩
                rw [decide_eq_true e_t2]
                have s_a := s_a.below l16
                have s_b := s_b.below l16
                have s_c := s_c.below l16
                have s_p := s_p.below l16
                have s_t1 := s_t1.below l16
                have s_t2 := s_t2.below l16
                have s_t3 := s_t3.below l16
                have s_t4 := s_t4.below l16
                go_wp2_with fail
                refine (C.union _ _ _ _ _ s_b s_c).mono ?_
                rintro e w17 ⟨v_t5, z_t5, rfl, s_t5, b_t5, l17⟩
                have s_a := s_a.below l17
                have s_b := s_b.below l17
                have s_c := s_c.below l17
                have s_p := s_p.below l17
                have s_t1 := s_t1.below l17
                have s_t2 := s_t2.below l17
                have s_t3 := s_t3.below l17
                have s_t4 := s_t4.below l17
                rw [y_b, y_c, Nat.max_self] at b_t5
                have y_t5 : sz z_t5 = N := b_t5.sz N64
                have c_t5 : ∀ i k, i < N → k < N → relB z_t5 i k = (fun i k => relB z_b i k || relB z_c i k) i k := fun i k hi hk => (b_t5.rel N64 hi hk).trans (or_eq ((crefl z_b N) i k hi hk) ((crefl z_c N) i k hi hk))
                go_wp2_with fail
                refine (C.thn _ _ _ _ _ s_a s_t5).mono ?_
                rintro e w18 ⟨v_t6, z_t6, rfl, s_t6, b_t6, l18⟩
                have s_a := s_a.below l18
                have s_b := s_b.below l18
                have s_c := s_c.below l18
                have s_p := s_p.below l18
                have s_t1 := s_t1.below l18
                have s_t2 := s_t2.below l18
                have s_t3 := s_t3.below l18
                have s_t4 := s_t4.below l18
                have s_t5 := s_t5.below l18
                rw [y_a, y_t5, Nat.max_self] at b_t6
                have y_t6 : sz z_t6 = N := b_t6.sz N64
                have c_t6 : ∀ i k, i < N → k < N → relB z_t6 i k = viaB (relB z_a) ((fun i k => relB z_b i k || relB z_c i k)) N i k := fun i k hi hk => (b_t6.rel N64 hi hk).trans (via_congr (crefl z_a N) c_t5 hi hk)
                go_wp2_with fail
                refine (C.thn _ _ _ _ _ s_a s_b).mono ?_
                rintro e w19 ⟨v_t7, z_t7, rfl, s_t7, b_t7, l19⟩
                have s_a := s_a.below l19
                have s_b := s_b.below l19
                have s_c := s_c.below l19
                have s_p := s_p.below l19
                have s_t1 := s_t1.below l19
                have s_t2 := s_t2.below l19
                have s_t3 := s_t3.below l19
                have s_t4 := s_t4.below l19
                have s_t5 := s_t5.below l19
                have s_t6 := s_t6.below l19
                rw [y_a, y_b, Nat.max_self] at b_t7
                have y_t7 : sz z_t7 = N := b_t7.sz N64
                have c_t7 : ∀ i k, i < N → k < N → relB z_t7 i k = viaB (relB z_a) (relB z_b) N i k := fun i k hi hk => (b_t7.rel N64 hi hk).trans (via_congr (crefl z_a N) (crefl z_b N) hi hk)
                go_wp2_with fail
                refine (C.thn _ _ _ _ _ s_a s_c).mono ?_
                rintro e w20 ⟨v_t8, z_t8, rfl, s_t8, b_t8, l20⟩
                have s_a := s_a.below l20
                have s_b := s_b.below l20
                have s_c := s_c.below l20
                have s_p := s_p.below l20
                have s_t1 := s_t1.below l20
                have s_t2 := s_t2.below l20
                have s_t3 := s_t3.below l20
                have s_t4 := s_t4.below l20
                have s_t5 := s_t5.below l20
                have s_t6 := s_t6.below l20
                have s_t7 := s_t7.below l20
                rw [y_a, y_c, Nat.max_self] at b_t8
                have y_t8 : sz z_t8 = N := b_t8.sz N64
                have c_t8 : ∀ i k, i < N → k < N → relB z_t8 i k = viaB (relB z_a) (relB z_c) N i k := fun i k hi hk => (b_t8.rel N64 hi hk).trans (via_congr (crefl z_a N) (crefl z_c N) hi hk)
                go_wp2_with fail
                refine (C.union _ _ _ _ _ s_t7 s_t8).mono ?_
                rintro e w21 ⟨v_t9, z_t9, rfl, s_t9, b_t9, l21⟩
                have s_a := s_a.below l21
                have s_b := s_b.below l21
                have s_c := s_c.below l21
                have s_p := s_p.below l21
                have s_t1 := s_t1.below l21
                have s_t2 := s_t2.below l21
                have s_t3 := s_t3.below l21
                have s_t4 := s_t4.below l21
                have s_t5 := s_t5.below l21
                have s_t6 := s_t6.below l21
                have s_t7 := s_t7.below l21
                have s_t8 := s_t8.below l21
                rw [y_t7, y_t8, Nat.max_self] at b_t9
                have y_t9 : sz z_t9 = N := b_t9.sz N64
                have c_t9 : ∀ i k, i < N → k < N → relB z_t9 i k = (fun i k => viaB (relB z_a) (relB z_b) N i k || viaB (relB z_a) (relB z_c) N i k) i k := fun i k hi hk => (b_t9.rel N64 hi hk).trans (or_eq (c_t7 i k hi hk) (c_t8 i k hi hk))
                have e_t6 : z_t6 = z_t9 := same_of b_t6 b_t9 N64 (fun i k hi hk => (c_t6 i k hi hk).trans ((show (viaB (relB z_a) ((fun i k => relB z_b i k || relB z_c i k)) N) i k = ((fun i k => viaB (relB z_a) (relB z_b) N i k || viaB (relB z_a) (relB z_c) N i k)) i k from via_or _ _ _ _ _ _).trans (c_t9 i k hi hk).symm))
                go_wp2_with fail
                refine (refSame_any _ _ _ _ _ s_t6 s_t9).mono ?_
                rintro e w22 ⟨rfl, l22⟩
                rw [decide_eq_true e_t6]
                have s_a := s_a.below l22
                have s_b := s_b.below l22
                have s_c := s_c.below l22
                have s_p := s_p.below l22
                have s_t1 := s_t1.below l22
                have s_t2 := s_t2.below l22
                have s_t3 := s_t3.below l22
                have s_t4 := s_t4.below l22
                have s_t5 := s_t5.below l22
                have s_t6 := s_t6.below l22
                have s_t7 := s_t7.below l22
                have s_t8 := s_t8.below l22
                have s_t9 := s_t9.below l22
                go_wp2_with fail
                refine (C.thn _ _ _ _ _ s_a s_b).mono ?_
                rintro e w23 ⟨v_u1, z_u1, rfl, s_u1, b_u1, l23⟩
                have s_a := s_a.below l23
                have s_b := s_b.below l23
                have s_c := s_c.below l23
                have s_p := s_p.below l23
                have s_t1 := s_t1.below l23
                have s_t2 := s_t2.below l23
                have s_t3 := s_t3.below l23
                have s_t4 := s_t4.below l23
                have s_t5 := s_t5.below l23
                have s_t6 := s_t6.below l23
                have s_t7 := s_t7.below l23
                have s_t8 := s_t8.below l23
                have s_t9 := s_t9.below l23
                rw [y_a, y_b, Nat.max_self] at b_u1
                have y_u1 : sz z_u1 = N := b_u1.sz N64
                have c_u1 : ∀ i k, i < N → k < N → relB z_u1 i k = viaB (relB z_a) (relB z_b) N i k := fun i k hi hk => (b_u1.rel N64 hi hk).trans (via_congr (crefl z_a N) (crefl z_b N) hi hk)
                go_wp2_with fail
                refine (C.back _ _ _ s_u1).mono ?_
                rintro e w24 ⟨v_u2, z_u2, rfl, s_u2, b_u2, l24⟩
                have s_a := s_a.below l24
                have s_b := s_b.below l24
                have s_c := s_c.below l24
                have s_p := s_p.below l24
                have s_t1 := s_t1.below l24
                have s_t2 := s_t2.below l24
                have s_t3 := s_t3.below l24
                have s_t4 := s_t4.below l24
                have s_t5 := s_t5.below l24
                have s_t6 := s_t6.below l24
                have s_t7 := s_t7.below l24
                have s_t8 := s_t8.below l24
                have s_t9 := s_t9.below l24
                have s_u1 := s_u1.below l24
                rw [y_u1] at b_u2
                have y_u2 : sz z_u2 = N := b_u2.sz N64
                have c_u2 : ∀ i k, i < N → k < N → relB z_u2 i k = (fun i k => viaB (relB z_a) (relB z_b) N k i) i k := fun i k hi hk => (b_u2.rel N64 hi hk).trans (c_u1 k i hk hi)
                go_wp2_with fail
                refine (C.back _ _ _ s_b).mono ?_
                rintro e w25 ⟨v_u3, z_u3, rfl, s_u3, b_u3, l25⟩
                have s_a := s_a.below l25
                have s_b := s_b.below l25
                have s_c := s_c.below l25
                have s_p := s_p.below l25
                have s_t1 := s_t1.below l25
                have s_t2 := s_t2.below l25
                have s_t3 := s_t3.below l25
                have s_t4 := s_t4.below l25
                have s_t5 := s_t5.below l25
                have s_t6 := s_t6.below l25
                have s_t7 := s_t7.below l25
                have s_t8 := s_t8.below l25
                have s_t9 := s_t9.below l25
                have s_u1 := s_u1.below l25
                have s_u2 := s_u2.below l25
                rw [y_b] at b_u3
                have y_u3 : sz z_u3 = N := b_u3.sz N64
                have c_u3 : ∀ i k, i < N → k < N → relB z_u3 i k = (fun i k => relB z_b k i) i k := fun i k hi hk => (b_u3.rel N64 hi hk).trans ((crefl z_b N) k i hk hi)
                go_wp2_with fail
                refine (C.back _ _ _ s_a).mono ?_
                rintro e w26 ⟨v_u4, z_u4, rfl, s_u4, b_u4, l26⟩
                have s_a := s_a.below l26
                have s_b := s_b.below l26
                have s_c := s_c.below l26
                have s_p := s_p.below l26
                have s_t1 := s_t1.below l26
                have s_t2 := s_t2.below l26
                have s_t3 := s_t3.below l26
                have s_t4 := s_t4.below l26
                have s_t5 := s_t5.below l26
                have s_t6 := s_t6.below l26
                have s_t7 := s_t7.below l26
                have s_t8 := s_t8.below l26
                have s_t9 := s_t9.below l26
                have s_u1 := s_u1.below l26
                have s_u2 := s_u2.below l26
                have s_u3 := s_u3.below l26
                rw [y_a] at b_u4
                have y_u4 : sz z_u4 = N := b_u4.sz N64
                have c_u4 : ∀ i k, i < N → k < N → relB z_u4 i k = (fun i k => relB z_a k i) i k := fun i k hi hk => (b_u4.rel N64 hi hk).trans ((crefl z_a N) k i hk hi)
                go_wp2_with fail
                refine (C.thn _ _ _ _ _ s_u3 s_u4).mono ?_
                rintro e w27 ⟨v_u5, z_u5, rfl, s_u5, b_u5, l27⟩
                have s_a := s_a.below l27
                have s_b := s_b.below l27
                have s_c := s_c.below l27
                have s_p := s_p.below l27
                have s_t1 := s_t1.below l27
                have s_t2 := s_t2.below l27
                have s_t3 := s_t3.below l27
                have s_t4 := s_t4.below l27
                have s_t5 := s_t5.below l27
                have s_t6 := s_t6.below l27
                have s_t7 := s_t7.below l27
                have s_t8 := s_t8.below l27
                have s_t9 := s_t9.below l27
                have s_u1 := s_u1.below l27
                have s_u2 := s_u2.below l27
                have s_u3 := s_u3.below l27
                have s_u4 := s_u4.below l27
                rw [y_u3, y_u4, Nat.max_self] at b_u5
                have y_u5 : sz z_u5 = N := b_u5.sz N64
                have c_u5 : ∀ i k, i < N → k < N → relB z_u5 i k = viaB ((fun i k => relB z_b k i)) ((fun i k => relB z_a k i)) N i k := fun i k hi hk => (b_u5.rel N64 hi hk).trans (via_congr c_u3 c_u4 hi hk)
                have e_u2 : z_u2 = z_u5 := same_of b_u2 b_u5 N64 (fun i k hi hk => (c_u2 i k hi hk).trans ((show ((fun i k => viaB (relB z_a) (relB z_b) N k i)) i k = (viaB ((fun i k => relB z_b k i)) ((fun i k => relB z_a k i)) N) i k from via_turn _ _ _ _ _).trans (c_u5 i k hi hk).symm))
                go_wp2_with fail
                refine (refSame_any _ _ _ _ _ s_u2 s_u5).mono ?_
                rintro e w28 ⟨rfl, l28⟩
                rw [decide_eq_true e_u2]
                have s_a := s_a.below l28
                have s_b := s_b.below l28
                have s_c := s_c.below l28
                have s_p := s_p.below l28
                have s_t1 := s_t1.below l28
                have s_t2 := s_t2.below l28
                have s_t3 := s_t3.below l28
                have s_t4 := s_t4.below l28
                have s_t5 := s_t5.below l28
                have s_t6 := s_t6.below l28
                have s_t7 := s_t7.below l28
                have s_t8 := s_t8.below l28
                have s_t9 := s_t9.below l28
                have s_u1 := s_u1.below l28
                have s_u2 := s_u2.below l28
                have s_u3 := s_u3.below l28
                have s_u4 := s_u4.below l28
                have s_u5 := s_u5.below l28
                go_wp2_with fail
                obtain ⟨G2, hG2, cG2⟩ := C.plus _ _ _ s_p
                refine cG2.mono ?_
                rintro e w29 ⟨v_pp, z_pp, rfl, s_pp, b_pp, l29⟩
                have s_a := s_a.below l29
                have s_b := s_b.below l29
                have s_c := s_c.below l29
                have s_p := s_p.below l29
                have s_t1 := s_t1.below l29
                have s_t2 := s_t2.below l29
                have s_t3 := s_t3.below l29
                have s_t4 := s_t4.below l29
                have s_t5 := s_t5.below l29
                have s_t6 := s_t6.below l29
                have s_t7 := s_t7.below l29
                have s_t8 := s_t8.below l29
                have s_t9 := s_t9.below l29
                have s_u1 := s_u1.below l29
                have s_u2 := s_u2.below l29
                have s_u3 := s_u3.below l29
                have s_u4 := s_u4.below l29
                have s_u5 := s_u5.below l29
                rw [y_p] at b_pp hG2
                have y_pp : sz z_pp = N := b_pp.sz N64
                have c_pp : ∀ i k, i < N → k < N → relB z_pp i k = G2 i k := fun i k hi hk => (b_pp.rel N64 hi hk).trans (rfl)
                have ia := relB_in z_a
                rw [y_a] at ia
                have ip := relB_in z_p
                rw [y_p] at ip
                have e_pp : z_pp = z_p := same_of b_pp b_p N64 (fun i k hi hk => (c_pp i k hi hk).trans ((show (G2) i k = (G) i k from by rw [Bool.eq_iff_iff, hG2 i k hi hk, hG i k hi hk]; exact way_way (fun a b ha hb => by rw [c_p a b ha hb]; exact hG a b ha hb) ip ia).trans (c_p i k hi hk).symm))
                go_wp2_with fail
                refine (refSame_any _ _ _ _ _ s_pp s_p).mono ?_
                rintro e w30 ⟨rfl, l30⟩
                rw [decide_eq_true e_pp]
                have s_a := s_a.below l30
                have s_b := s_b.below l30
                have s_c := s_c.below l30
                have s_p := s_p.below l30
                have s_t1 := s_t1.below l30
                have s_t2 := s_t2.below l30
                have s_t3 := s_t3.below l30
                have s_t4 := s_t4.below l30
                have s_t5 := s_t5.below l30
                have s_t6 := s_t6.below l30
                have s_t7 := s_t7.below l30
                have s_t8 := s_t8.below l30
                have s_t9 := s_t9.below l30
                have s_u1 := s_u1.below l30
                have s_u2 := s_u2.below l30
                have s_u3 := s_u3.below l30
                have s_u4 := s_u4.below l30
                have s_u5 := s_u5.below l30
                have s_pp := s_pp.below l30
                go_wp2_with fail
                refine (C.union _ _ _ _ _ s_a s_b).mono ?_
                rintro e w31 ⟨v_m1, z_m1, rfl, s_m1, b_m1, l31⟩
                have s_a := s_a.below l31
                have s_b := s_b.below l31
                have s_c := s_c.below l31
                have s_p := s_p.below l31
                have s_t1 := s_t1.below l31
                have s_t2 := s_t2.below l31
                have s_t3 := s_t3.below l31
                have s_t4 := s_t4.below l31
                have s_t5 := s_t5.below l31
                have s_t6 := s_t6.below l31
                have s_t7 := s_t7.below l31
                have s_t8 := s_t8.below l31
                have s_t9 := s_t9.below l31
                have s_u1 := s_u1.below l31
                have s_u2 := s_u2.below l31
                have s_u3 := s_u3.below l31
                have s_u4 := s_u4.below l31
                have s_u5 := s_u5.below l31
                have s_pp := s_pp.below l31
                rw [y_a, y_b, Nat.max_self] at b_m1
                have y_m1 : sz z_m1 = N := b_m1.sz N64
                have c_m1 : ∀ i k, i < N → k < N → relB z_m1 i k = (fun i k => relB z_a i k || relB z_b i k) i k := fun i k hi hk => (b_m1.rel N64 hi hk).trans (or_eq ((crefl z_a N) i k hi hk) ((crefl z_b N) i k hi hk))
                go_wp2_with fail
                refine (C.minus _ _ _ _ _ s_m1 s_b).mono ?_
                rintro e w32 ⟨v_m2, z_m2, rfl, s_m2, b_m2, l32⟩
                have s_a := s_a.below l32
                have s_b := s_b.below l32
                have s_c := s_c.below l32
                have s_p := s_p.below l32
                have s_t1 := s_t1.below l32
                have s_t2 := s_t2.below l32
                have s_t3 := s_t3.below l32
                have s_t4 := s_t4.below l32
                have s_t5 := s_t5.below l32
                have s_t6 := s_t6.below l32
                have s_t7 := s_t7.below l32
                have s_t8 := s_t8.below l32
                have s_t9 := s_t9.below l32
                have s_u1 := s_u1.below l32
                have s_u2 := s_u2.below l32
                have s_u3 := s_u3.below l32
                have s_u4 := s_u4.below l32
                have s_u5 := s_u5.below l32
                have s_pp := s_pp.below l32
                have s_m1 := s_m1.below l32
                rw [y_m1, y_b, Nat.max_self] at b_m2
                have y_m2 : sz z_m2 = N := b_m2.sz N64
                have c_m2 : ∀ i k, i < N → k < N → relB z_m2 i k = (fun i k => (fun i k => relB z_a i k || relB z_b i k) i k && !relB z_b i k) i k := fun i k hi hk => (b_m2.rel N64 hi hk).trans (andnot_eq (c_m1 i k hi hk) ((crefl z_b N) i k hi hk))
                go_wp2_with fail
                refine (C.minus _ _ _ _ _ s_a s_b).mono ?_
                rintro e w33 ⟨v_m3, z_m3, rfl, s_m3, b_m3, l33⟩
                have s_a := s_a.below l33
                have s_b := s_b.below l33
                have s_c := s_c.below l33
                have s_p := s_p.below l33
                have s_t1 := s_t1.below l33
                have s_t2 := s_t2.below l33
                have s_t3 := s_t3.below l33
                have s_t4 := s_t4.below l33
                have s_t5 := s_t5.below l33
                have s_t6 := s_t6.below l33
                have s_t7 := s_t7.below l33
                have s_t8 := s_t8.below l33
                have s_t9 := s_t9.below l33
                have s_u1 := s_u1.below l33
                have s_u2 := s_u2.below l33
                have s_u3 := s_u3.below l33
                have s_u4 := s_u4.below l33
                have s_u5 := s_u5.below l33
                have s_pp := s_pp.below l33
                have s_m1 := s_m1.below l33
                have s_m2 := s_m2.below l33
                rw [y_a, y_b, Nat.max_self] at b_m3
                have y_m3 : sz z_m3 = N := b_m3.sz N64
                have c_m3 : ∀ i k, i < N → k < N → relB z_m3 i k = (fun i k => relB z_a i k && !relB z_b i k) i k := fun i k hi hk => (b_m3.rel N64 hi hk).trans (andnot_eq ((crefl z_a N) i k hi hk) ((crefl z_b N) i k hi hk))
                have e_m2 : z_m2 = z_m3 := same_of b_m2 b_m3 N64 (fun i k hi hk => (c_m2 i k hi hk).trans ((show ((fun i k => (fun i k => relB z_a i k || relB z_b i k) i k && !relB z_b i k)) i k = ((fun i k => relB z_a i k && !relB z_b i k)) i k from by dsimp only; cases relB z_a i k <;> cases relB z_b i k <;> rfl).trans (c_m3 i k hi hk).symm))
                go_wp2_with fail
                refine (refSame_any _ _ _ _ _ s_m2 s_m3).mono ?_
                rintro e w34 ⟨rfl, l34⟩
                rw [decide_eq_true e_m2]
                have s_a := s_a.below l34
                have s_b := s_b.below l34
                have s_c := s_c.below l34
                have s_p := s_p.below l34
                have s_t1 := s_t1.below l34
                have s_t2 := s_t2.below l34
                have s_t3 := s_t3.below l34
                have s_t4 := s_t4.below l34
                have s_t5 := s_t5.below l34
                have s_t6 := s_t6.below l34
                have s_t7 := s_t7.below l34
                have s_t8 := s_t8.below l34
                have s_t9 := s_t9.below l34
                have s_u1 := s_u1.below l34
                have s_u2 := s_u2.below l34
                have s_u3 := s_u3.below l34
                have s_u4 := s_u4.below l34
                have s_u5 := s_u5.below l34
                have s_pp := s_pp.below l34
                have s_m1 := s_m1.below l34
                have s_m2 := s_m2.below l34
                have s_m3 := s_m3.below l34
                go_wp2_with fail
                refine (C.thn _ _ _ _ _ s_a s_p).mono ?_
                rintro e w35 ⟨v_n1, z_n1, rfl, s_n1, b_n1, l35⟩
                have s_a := s_a.below l35
                have s_b := s_b.below l35
                have s_c := s_c.below l35
                have s_p := s_p.below l35
                have s_t1 := s_t1.below l35
                have s_t2 := s_t2.below l35
                have s_t3 := s_t3.below l35
                have s_t4 := s_t4.below l35
                have s_t5 := s_t5.below l35
                have s_t6 := s_t6.below l35
                have s_t7 := s_t7.below l35
                have s_t8 := s_t8.below l35
                have s_t9 := s_t9.below l35
                have s_u1 := s_u1.below l35
                have s_u2 := s_u2.below l35
                have s_u3 := s_u3.below l35
                have s_u4 := s_u4.below l35
                have s_u5 := s_u5.below l35
                have s_pp := s_pp.below l35
                have s_m1 := s_m1.below l35
                have s_m2 := s_m2.below l35
                have s_m3 := s_m3.below l35
                rw [y_a, y_p, Nat.max_self] at b_n1
                have y_n1 : sz z_n1 = N := b_n1.sz N64
                have c_n1 : ∀ i k, i < N → k < N → relB z_n1 i k = viaB (relB z_a) (G) N i k := fun i k hi hk => (b_n1.rel N64 hi hk).trans (via_congr (crefl z_a N) c_p hi hk)
                go_wp2_with fail
                refine (C.union _ _ _ _ _ s_a s_n1).mono ?_
                rintro e w36 ⟨v_n2, z_n2, rfl, s_n2, b_n2, l36⟩
                have s_a := s_a.below l36
                have s_b := s_b.below l36
                have s_c := s_c.below l36
                have s_p := s_p.below l36
                have s_t1 := s_t1.below l36
                have s_t2 := s_t2.below l36
                have s_t3 := s_t3.below l36
                have s_t4 := s_t4.below l36
                have s_t5 := s_t5.below l36
                have s_t6 := s_t6.below l36
                have s_t7 := s_t7.below l36
                have s_t8 := s_t8.below l36
                have s_t9 := s_t9.below l36
                have s_u1 := s_u1.below l36
                have s_u2 := s_u2.below l36
                have s_u3 := s_u3.below l36
                have s_u4 := s_u4.below l36
                have s_u5 := s_u5.below l36
                have s_pp := s_pp.below l36
                have s_m1 := s_m1.below l36
                have s_m2 := s_m2.below l36
                have s_m3 := s_m3.below l36
                have s_n1 := s_n1.below l36
                rw [y_a, y_n1, Nat.max_self] at b_n2
                have y_n2 : sz z_n2 = N := b_n2.sz N64
                have c_n2 : ∀ i k, i < N → k < N → relB z_n2 i k = (fun i k => relB z_a i k || viaB (relB z_a) (G) N i k) i k := fun i k hi hk => (b_n2.rel N64 hi hk).trans (or_eq ((crefl z_a N) i k hi hk) (c_n1 i k hi hk))
                have e_n2 : z_n2 = z_p := same_of b_n2 b_p N64 (fun i k hi hk => (c_n2 i k hi hk).trans ((show ((fun i k => relB z_a i k || viaB (relB z_a) (G) N i k)) i k = (G) i k from by dsimp only; rw [Bool.eq_iff_iff, Bool.or_eq_true, viaB_iff, hG i k hi hk, way_iff]; exact ⟨fun h => h.imp id (fun ⟨j, hj, h1, h2⟩ => ⟨j, hj, h1, (hG j k hj hk).1 h2⟩), fun h => h.imp id (fun ⟨j, hj, h1, h2⟩ => ⟨j, hj, h1, (hG j k hj hk).2 h2⟩)⟩).trans (c_p i k hi hk).symm))
                go_wp2_with fail
                refine (refSame_any _ _ _ _ _ s_n2 s_p).mono ?_
                rintro e w37 ⟨rfl, l37⟩
                rw [decide_eq_true e_n2]
                have s_a := s_a.below l37
                have s_b := s_b.below l37
                have s_c := s_c.below l37
                have s_p := s_p.below l37
                have s_t1 := s_t1.below l37
                have s_t2 := s_t2.below l37
                have s_t3 := s_t3.below l37
                have s_t4 := s_t4.below l37
                have s_t5 := s_t5.below l37
                have s_t6 := s_t6.below l37
                have s_t7 := s_t7.below l37
                have s_t8 := s_t8.below l37
                have s_t9 := s_t9.below l37
                have s_u1 := s_u1.below l37
                have s_u2 := s_u2.below l37
                have s_u3 := s_u3.below l37
                have s_u4 := s_u4.below l37
                have s_u5 := s_u5.below l37
                have s_pp := s_pp.below l37
                have s_m1 := s_m1.below l37
                have s_m2 := s_m2.below l37
                have s_m3 := s_m3.below l37
                have s_n1 := s_n1.below l37
                have s_n2 := s_n2.below l37
                go_wp2_with fail
                go_ret
                exact ⟨rfl, bt (bt (bt (bt (bt (bt (bt (bt (bt (bt (bt (bt (bt (bt (bt (bt (bt (bt (bt (bt (bt (bt (bt (bt (bt (bt (bt (lw0) l11) l12) l13) l14) l15) l16) l17) l18) l19) l20) l21) l22) l23) l24) l25) l26) l27) l28) l29) l30) l31) l32) l33) l34) l35) l36) l37⟩
end Go.Proofs.YtcfegclnkheebaaDoor
