/-
  The walk of the statement RelOrder over contracts of the program's own functions.
-/
import Derived.Test.YtcfegclnkheebaaDoorQ
namespace Go.Proofs.YtcfegclnkheebaaDoor
open Go.RowKit

/-- A world in which what lay in W lies as it did. -/
structure Later (W : World) where
  v : World
  h : Below W.heap.size W v
theorem wp_region_later {P : Program} {id : Nat} {Q : Exit → Act → World → Prop} {a : Act} {w : World} {l : List Oper} (hm : P.follows .mixedOrders = true) (hB : Region.lexB .any l.toArray = true)
    (h : wpQuiet P l.toArray (fun w' => ∃ p : Later w, w' = p.v) (fun a' => ∀ w', (∃ p : Later w, w' = p.v) → Q .normal a' w') l a) : (Code.region id l.toArray true).wp P Q a w :=
  wp_region_quiet (C := fun w' => ∃ p : Later w, w' = p.v) hm hB ⟨⟨w.drew, (Below.refl _ _).drew⟩, rfl⟩ (by simpa using h)
theorem later_cell {W : World} {a : Addr} {x : Value} (hlt : a.block < W.heap.size) (h : W.cell? a = some x) (p : Later W) : p.v.cell? a = some x := (p.h.cell hlt).trans h
theorem calls_later {P : Program} {f : FuncId} {args : Array Value} {W : World} {p : Later W} {v : Value}
    (h : Calls P f args p.v fun e w' => e = .returned v ∧ Below p.v.heap.size p.v w') : Calls P f args p.v fun e w'' => e = .returned v ∧ ∃ q : Later W, w'' = q.v :=
  h.mono fun _ w'' ⟨he, hb⟩ => ⟨he, ⟨w'', bt p.h hb⟩, rfl⟩
set_option maxHeartbeats 4000000 in
theorem relOrder_walk (C : Rel2) (awake : Awake) (a_a : Option Addr) (cap_a : Nat) (zs_a : List Nat) (w : World) (tab : Tab w) (s_a : Sl w (.slice a_a zs_a.length cap_a) zs_a) (hc_a : zs_a.length ≤ cap_a) (hz_a : a_a = none → cap_a = 0) :
    Calls Tryd.prog 6 #[.slice a_a zs_a.length cap_a] w fun e w' => e = .returned (.bool true) ∧ Below w.heap.size w w' := by
  go_enter Tryd.func6, Tryd.ntmps6
  have l0 := Below.refl w.heap.size w
  go_wp2_with fail
  refine (awake _ tab).mono ?_
  rintro e w1 ⟨rfl, l1⟩
  have s_a := s_a.below l1
  go_wp2_with fail
  refine (few_any a_a cap_a zs_a _ s_a hc_a hz_a).mono ?_
  rintro e w2 ⟨v_a, rfl, o_a, l2, s_a'⟩
  have s_a := s_a'
  obtain ⟨za, hza⟩ : ∃ z, zs_a.take 70 = z := ⟨_, rfl⟩
  rw [hza] at s_a
  clear hza o_a s_a'
  go_wp2_with fail
  obtain ⟨lo, oko, ho1, ho2, co⟩ := C.order _ _ _ s_a
  refine co.mono ?_
  rintro e w3 ⟨v_o, rfl, i_o, l3⟩
  have s_a := s_a.below l3
  go_wp2_with fail
  obtain ⟨ra, hra, cra⟩ := C.ring _ _ _ s_a
  refine cra.mono ?_
  rintro e w4 ⟨rfl, l4⟩
  have s_a := s_a.below l4
  have i_o := i_o.below l4
  have lw : Below w.heap.size w w4 := bt (bt (bt (bt (l0) l1) l2) l3) l4
  have n64 := sz_le za
  cases oko with
  | false =>
    have hl0 := ho2 rfl
    subst hl0
    have hr : ra = true := hra.2 (ord_none (by simpa using ho1))
    subst hr
    clear ho1 ho2 hra co cra
    have hvo : ∃ a c, v_o = .slice a 0 c := by
      obtain ⟨_, a, c, e, _⟩ := i_o; exact ⟨a, c, e⟩
    obtain ⟨ao, co', rfl⟩ := hvo
    go_wp2_with fail
    go_ret
    exact ⟨rfl, lw⟩
  | true =>
    have hord : ordL (relB za) (sz za) = some lo := by simpa using ho1
    obtain ⟨told, hlen⟩ := ord_some hord
    have hr : ra = false := by
      cases hr : ra
      · rfl
      · obtain ⟨x, _, hw⟩ := hra.1 hr
        exact absurd hw (told_noring (relB_in za) told hlen x)
    subst hr
    clear hra ho1 ho2 hord
    obtain ⟨n, hn⟩ : ∃ n, sz za = n := ⟨_, rfl⟩
    rw [hn] at told hlen n64
    have HN : Hid (sz za = n) := hn
    have HL : Hid (lo.length = n) := hlen
    have hvo : ∃ a c, v_o = .slice a n c := by
      obtain ⟨_, a, c, e, _⟩ := i_o; exact ⟨a, c, by rw [e, hlen]⟩
    clear hlen
    have hva : ∃ a c, v_a = .slice a za.length c := by
      obtain ⟨_, _, a, c, e, _⟩ := s_a; exact ⟨a, c, e⟩
    have lza := s_a.2.1
    obtain ⟨ao, cpo, rfl⟩ := hvo
    obtain ⟨aa, cpa, rfl⟩ := hva
    clear hn
    go_wp2_with fail
    go_loopw [5] (fun s wr => ∃ i : Nat, i ≤ n ∧ s = .int .i64 i ∧ Below w4.heap.size w4 wr) (fun s _ => n - (intOf s).toNat)
    case atStart => exact ⟨0, Nat.zero_le _, rfl, Below.refl _ _⟩
    case round =>
      obtain ⟨i, hin, rfl, hb⟩ := hrel
      by_cases hlt : i < n
      · have hlt' : (i : Int) < (n : Int) := by omega
        go_wp2_with fail
        go_loopw [6] (fun s wr => ∃ k : Nat, k ≤ i + 1 ∧ s = .int .i64 k ∧ Below w4.heap.size w4 wr) (fun s _ => i + 1 - (intOf s).toNat)
        case atStart => exact ⟨0, Nat.zero_le _, rfl, hb⟩
        case round =>
          clear hb
          obtain ⟨k, hki, rfl, hb⟩ := hrel
          by_cases hk : k ≤ i
          · have hk' : (k : Int) ≤ (i : Int) := by omega
            have hkn' : (k : Int) < (n : Int) := by omega
            have s_r := s_a.below hb
            obtain ⟨b, off, cp, e, hbl, hcells⟩ := (i_o.below hb).two (by have := HL.out; omega)
            simp only [Value.slice.injEq] at e
            obtain ⟨rfl, _, rfl⟩ := e
            have c_i := hcells i (by have := HL.out; omega)
            have c_k := hcells k (by have := HL.out; omega)
            have ahead := told.ahead i k hk (by have := HL.out; omega)
            have once : k < i → lo.getD k 0 ≠ lo.getD i 0 := fun h e => by have := told.once k i (by have := HL.out; omega) (by have := HL.out; omega) e; omega
            unfold relB at ahead
            clear hcells
            obtain ⟨x, hx⟩ : ∃ x, lo.getD i 0 = x := ⟨_, rfl⟩
            obtain ⟨y, hy⟩ : ∃ y, lo.getD k 0 = y := ⟨_, rfl⟩
            rw [hx] at c_i ahead once
            rw [hy] at c_k ahead once
            clear hx hy
            have L0 := later_cell (W := wr) (a := ⟨b, off + i, none⟩) hbl c_i
            have L1 := later_cell (W := wr) (a := ⟨b, off + k, none⟩) hbl c_k
            have ne : Nonempty (Later wr) := ⟨⟨wr, Below.refl _ _⟩⟩
            have cf : ∀ p : Later wr, Calls Tryd.prog 19 #[.slice aa za.length cpa, .int .i64 (x : Int), .int .i64 (y : Int)] p.v fun e w'' => e = .returned (.bool false) ∧ ∃ q : Later wr, w'' = q.v := fun p => by
              have := calls_later (C.has _ _ (x : Int) (y : Int) _ (s_r.below p.h))
              rw [ahead] at this; exact this
            have CF : Hid (∀ p : Later wr, Calls Tryd.prog 19 #[.slice aa za.length cpa, .int .i64 (x : Int), .int .i64 (y : Int)] p.v fun e w'' => e = .returned (.bool false) ∧ ∃ q : Later wr, w'' = q.v) := cf
            clear cf
            by_cases hki' : k < i
            · have hki2 : (k : Int) < (i : Int) := by omega
              have hxy : ((y : Int) == (x : Int)) = false := by have := once hki'; rw [beq_eq_false_iff_ne]; omega
              go_wp2_with fail
              refine wp_region_later (by kernel_rfl) (by kernel_rfl) ?_
              repeat (go_big_quiet_step ((go_at_call 19; exact CF.out _)))
              refine wpQuiet_nil ?_
              rintro _ ⟨⟨wq, hq⟩, rfl⟩
              clear L0 L1 ne
              go_wp2
              go_roundw
              case rel => exact ⟨k + 1, by omega, by go_num, bt hb hq⟩
              case measure => simp only [intOf]; omega
            · have hki2 : decide ((k : Int) < (i : Int)) = false := by rw [decide_eq_false_iff_not]; omega
              go_wp2_with fail
              refine wp_region_later (by kernel_rfl) (by kernel_rfl) ?_
              repeat (go_big_quiet_step ((go_at_call 19; exact CF.out _)))
              refine wpQuiet_nil ?_
              rintro _ ⟨⟨wq, hq⟩, rfl⟩
              clear L0 L1 ne
              go_wp2
              go_roundw
              case rel => exact ⟨k + 1, by omega, by go_num, bt hb hq⟩
              case measure => simp only [intOf]; omega
          · go_wp2_with fail
            go_roundw
            case rel => exact ⟨i + 1, by omega, by go_num, hb⟩
            case measure => simp only [intOf]; omega
      · by_cases h64 : za.length ≤ 64
        · have h64' : (za.length : Int) ≤ 64 := by omega
          have e : (n : Int) = (za.length : Int) := by have := HN.out; unfold sz at this; omega
          have eb : ((n : Int) == (za.length : Int)) = true := by rw [beq_iff_eq]; exact e
          clear e
          go_wp2_with fail
          go_ret
          exact ⟨rfl, bt lw hb⟩
        · have h64' : (64 : Int) < (za.length : Int) := by omega
          have eb : ((n : Int) == 64) = true := by rw [beq_iff_eq]; have := HN.out; unfold sz at this; omega
          go_wp2_with fail
          go_ret
          exact ⟨rfl, bt lw hb⟩
end Go.Proofs.YtcfegclnkheebaaDoor
