/-
  The walk of the document's own Small.
  A program that was read, as a program; the walk of the fixed answer that the laws ask first.
-/
import Derived.Test.YtkljakeccfnakaaGreatDoorUa
import Derived.Test.YtkljakeccfnakaaGreatDoorKk
namespace Go.Proofs.YtkljakeccfnakaaGreatDoor
open Go.RowKit

set_option maxHeartbeats 2000000 in
theorem small_great (a1 a2 : Option Addr) (n1 c1 n2 c2 : Nat) (w : World) (h : ¬ (n1 ≤ 40 ∧ n2 ≤ 10)) :
    Calls Tryz.prog 10 #[.agg #[.slice a1 n1 c1, .slice a2 n2 c2]] w fun e w' => e = .returned (.bool false) ∧ Below w.heap.size w w' := by
  by_cases z1 : (n1 : Int) > 40
  · go_enter Tryz.func10, Tryz.ntmps10
    go_wp2_with fail
    go_ret
    exact ⟨rfl, ba (Below.refl _ _)⟩
  have z2 : (n2 : Int) > 10 := by omega
  clear h
  go_enter Tryz.func10, Tryz.ntmps10
  go_wp2_with fail
  go_ret
  exact ⟨rfl, ba (Below.refl _ _)⟩
set_option maxHeartbeats 16000000 in
theorem small_walk (ds : List Dl) (es : List Px) (a1 a2 : Option Addr) (n1 c1 n2 c2 hi : Nat) (w : World) (h1 : ds.length = n1) (h2 : es.length = n2) (K : Hid (ProgK2 hi w a1 a2 ds es)) (q1 : n1 ≤ 40) (q2 : n2 ≤ 10) (hz : ∀ x ∈ es, szX x ≤ 1000000000000000) :
    Calls Tryz.prog 10 #[.agg #[.slice a1 n1 c1, .slice a2 n2 c2]] w fun e w' => e = .returned (.bool (ds.all (fun d => decide (d.name.length ≤ 1000)) && es.all smallX)) ∧ Below w.heap.size w w' := by
  have HN := Hid.intro (And.intro h1 h2)
  have HZ := Hid.intro hz
  clear h1 h2 hz
  have z1 : ¬ (n1 : Int) > 40 := by omega
  have z2 : ¬ (n2 : Int) > 10 := by omega
  go_enter Tryz.func10, Tryz.ntmps10
  go_wp2_with fail
  go_loopw [3] (fun u wr => ∃ (i : Nat), i ≤ n1 ∧ u = .int .i64 i ∧ Hid ((ds.take i).all (fun d => decide (d.name.length ≤ 1000)) = true) ∧ wr.cell? ⟨w.heap.size, 0, none⟩ = some (.slice a1 n1 c1) ∧ wr.cell? ⟨w.heap.size, 1, none⟩ = some (.slice a2 n2 c2) ∧ Below w.heap.size w wr) (fun u _ => n1 - (intOf u).toNat)
  case atStart => exact ⟨0, Nat.zero_le _, rfl, by simp [Hid], by go_simp, by go_simp, ba (Below.refl _ _)⟩
  case round =>
    obtain ⟨i, hi', rfl, hs, x0, x1, hb⟩ := hrel
    have lx := lt_cell x0
    by_cases c : i < n1
    · have c' : (i : Int) < (n1 : Int) := by omega
      rcases K.out.d with h0 | ⟨b, off, rfl, hR⟩
      · exact absurd HN.out.1 (by rw [h0]; simp; omega)
      obtain ⟨d, hd⟩ : ∃ d, ds[i]? = some d := ⟨_, List.getElem?_eq_getElem (by have := HN.out.1; omega)⟩
      have hbl : b < w.heap.size := Nat.lt_of_lt_of_le hR.1 K.out.hhi
      obtain ⟨_, k1, _, _⟩ := hR.2 i d hd
      have K1 := (hb.cell (p := ⟨b, _, none⟩) hbl).trans k1
      have HD : Hid (ds[i]? = some d) := hd
      have hbr : b < wr.heap.size := Nat.lt_of_lt_of_le hbl hb.size
      have es1 : (⟨d.name.toArray⟩ : ByteArray).size = d.name.length := by rw [Lib.size_eq]
      have HE := Hid.intro es1
      clear hR hd k1 es1
      generalize (⟨d.name.toArray⟩ : ByteArray) = tx at *
      by_cases g : tx.size ≤ 1000
      · have g' : ¬ (tx.size : Int) > 1000 := by omega
        have E : Hid ((ds.take (i + 1)).all (fun d => decide (d.name.length ≤ 1000)) = true) := all_take HD.out hs.out (decide_eq_true (by have := HE.out; omega))
        go_wp2_with fail
        go_roundw
        case rel => exact ⟨i + 1, by omega, by go_num, E.out, x0, x1, hb⟩
        case measure => simp [intOf]; omega
      · have g' : (tx.size : Int) > 1000 := by omega
        have E : Hid ((ds.all (fun d => decide (d.name.length ≤ 1000)) && es.all smallX) = false) := by
          show _ = _
          rw [all_no HD.out (decide_eq_false (by have := HE.out; omega))]; rfl
        go_wp2_with fail
        go_ret
        exact ⟨ret_bool E.out.symm, hb⟩
    · have c' : ¬ (i : Int) < (n1 : Int) := by omega
      have A1 : Hid (ds.all (fun d => decide (d.name.length ≤ 1000)) = true) := all_whole (by have := HN.out.1; omega) hs.out
      clear hs
      go_wp2_with fail
      go_loopw [4] (fun u wr => ∃ (i : Nat), i ≤ n2 ∧ u = .int .i64 i ∧ Hid ((es.take i).all smallX = true) ∧ wr.cell? ⟨w.heap.size, 1, none⟩ = some (.slice a2 n2 c2) ∧ Below w.heap.size w wr) (fun u _ => n2 - (intOf u).toNat)
      case atStart => exact ⟨0, Nat.zero_le _, rfl, by simp [Hid], x1, hb⟩
      clear hb x0 x1 lx c c' hi'
      case round =>
        obtain ⟨i, hi', rfl, hs, x1, hb⟩ := hrel
        have lx := lt_cell x1
        by_cases c : i < n2
        · have c' : (i : Int) < (n2 : Int) := by omega
          rcases K.out.e with h0 | ⟨b, off, rfl, hR⟩
          · exact absurd HN.out.2 (by rw [h0]; simp; omega)
          obtain ⟨y, hy⟩ : ∃ y, es[i]? = some y := ⟨_, List.getElem?_eq_getElem (by have := HN.out.2; omega)⟩
          have hbl : b < w.heap.size := Nat.lt_of_lt_of_le hR.1 K.out.hhi
          obtain ⟨ka, cp, hkc, hky⟩ := hR.2 i y hy
          obtain ⟨M0, M1, M2, M3, M4, M5⟩ := hkc.keep hb hbl
          have hbr : b < wr.heap.size := Nat.lt_of_lt_of_le hbl hb.size
          have hzy := HZ.out y (List.mem_of_getElem? hy)
          have HC1 : Hid (∀ W : World, Below w.heap.size w W → Calls Tryz.prog 20 #[.agg #[.int .i64 y.kind, .string ⟨y.text.toArray⟩, .string ⟨y.other.toArray⟩, .int .i64 y.n, .int .i64 y.pl, .slice ka y.kids.length cp]] W fun e w' => e = .returned (.int .i64 (deepX y : Nat)) ∧ Below W.heap.size W w') := fun W hW => xdeep_any _ y _ hi W (Nat.le_refl _) (Nat.le_trans K.out.hhi hW.size) (hky.keep (hW.mono K.out.hhi)) (by have := deep_szX y; omega)
          have HC2 : Hid (∀ W : World, Below w.heap.size w W → Calls Tryz.prog 21 #[.agg #[.int .i64 y.kind, .string ⟨y.text.toArray⟩, .string ⟨y.other.toArray⟩, .int .i64 y.n, .int .i64 y.pl, .slice ka y.kids.length cp]] W fun e w' => e = .returned (.int .i64 (szX y : Nat)) ∧ Below W.heap.size W w') := fun W hW => xsize_any _ y _ hi W (Nat.le_refl _) (Nat.le_trans K.out.hhi hW.size) (hky.keep (hW.mono K.out.hhi)) hzy
          have HC3 : Hid (∀ W : World, Below w.heap.size w W → Calls Tryz.prog 22 #[.agg #[.int .i64 y.kind, .string ⟨y.text.toArray⟩, .string ⟨y.other.toArray⟩, .int .i64 y.n, .int .i64 y.pl, .slice ka y.kids.length cp]] W fun e w' => e = .returned (.bool (shortX y)) ∧ Below W.heap.size W w') := fun W hW => short_any _ y _ hi W (Nat.le_refl _) (Nat.le_trans K.out.hhi hW.size) (hky.keep (hW.mono K.out.hhi))
          have HY : Hid (es[i]? = some y) := hy
          have HKC := Hid.intro hkc
          have KW : Hid (Below w.heap.size w wr) := hb
          have HS : Hid (smallX y = (decide (deepX y ≤ 100) && decide (szX y ≤ 2000) && shortX y)) := rfl
          clear hkc hky hy hR hzy
          generalize deepX y = zd at *
          generalize szX y = zs at *
          generalize shortX y = zb at *
          by_cases g1 : zd ≤ 100
          case neg =>
            have g1' : (zd : Int) > 100 := by omega
            have E : Hid ((ds.all (fun d => decide (d.name.length ≤ 1000)) && es.all smallX) = false) := by
              show _ = _
              rw [all_no HY.out (by rw [HS.out, decide_eq_false g1]; rfl), Bool.and_false]
            go_wp2_with (go_at_call 20; refine (HC1.out _ KW.out).mono ?_; rintro e w1 ⟨rfl, hb1⟩)
            go_ret
            exact ⟨ret_bool E.out.symm, bl2 KW.out hb1⟩
          have g1' : ¬ (zd : Int) > 100 := by omega
          have G1 := Hid.intro g1
          clear g1
          go_wp2_with fail
          refine (HC1.out _ KW.out).mono ?_
          rintro e w1 ⟨rfl, hb_w1⟩
          have KW_w1 : Hid (Below w.heap.size w w1) := bl2 KW.out hb_w1
          have X_w1 := (hb_w1.cell (p := ⟨w.heap.size, 1, none⟩) (lt_cell x1)).trans x1
          have lx_w1 := lt_cell X_w1
          obtain ⟨M0_w1, M1_w1, M2_w1, M3_w1, M4_w1, M5_w1⟩ := HKC.out.keep KW_w1.out hbl
          have lb_w1 : b < w1.heap.size := Nat.lt_of_lt_of_le hbl KW_w1.out.size
          clear hb_w1
          clear M0 M1 M2 M3 M4 M5 x1 lx hb hbr
          by_cases g2 : zs ≤ 2000
          case neg =>
            have g2' : (zs : Int) > 2000 := by omega
            have E : Hid ((ds.all (fun d => decide (d.name.length ≤ 1000)) && es.all smallX) = false) := by
              show _ = _
              rw [all_no HY.out (by rw [HS.out, decide_eq_false g2, Bool.and_false]; rfl), Bool.and_false]
            clear g2
            go_wp2_with (go_at_call 21; refine (HC2.out _ KW_w1.out).mono ?_; rintro e w2 ⟨rfl, hb2⟩)
            go_ret
            exact ⟨ret_bool E.out.symm, bl2 KW_w1.out hb2⟩
          have g2' : ¬ (zs : Int) > 2000 := by omega
          have G2 := Hid.intro g2
          clear g2
          go_wp2_with fail
          refine (HC2.out _ KW_w1.out).mono ?_
          rintro e w2 ⟨rfl, hb_w2⟩
          have KW_w2 : Hid (Below w.heap.size w w2) := bl2 KW_w1.out hb_w2
          have X_w2 := (hb_w2.cell (p := ⟨w.heap.size, 1, none⟩) (lt_cell X_w1)).trans X_w1
          have lx_w2 := lt_cell X_w2
          obtain ⟨M0_w2, M1_w2, M2_w2, M3_w2, M4_w2, M5_w2⟩ := HKC.out.keep KW_w2.out hbl
          have lb_w2 : b < w2.heap.size := Nat.lt_of_lt_of_le hbl KW_w2.out.size
          clear hb_w2
          clear X_w1 lx_w1 lb_w1 M0_w1 M1_w1 M2_w1 M3_w1 M4_w1 M5_w1
          cases zb with
          | false =>
            have E : Hid ((ds.all (fun d => decide (d.name.length ≤ 1000)) && es.all smallX) = false) := by
              show _ = _
              rw [all_no HY.out (by rw [HS.out, Bool.and_false]), Bool.and_false]
            go_wp2_with (go_at_call 22; refine (HC3.out _ KW_w2.out).mono ?_; rintro e w3 ⟨rfl, hb3⟩)
            go_ret
            exact ⟨ret_bool E.out.symm, bl2 KW_w2.out hb3⟩
          | true =>
            have E : Hid ((es.take (i + 1)).all smallX = true) := all_take HY.out hs.out (by rw [HS.out, decide_eq_true G1.out, decide_eq_true G2.out]; rfl)
            go_wp2_with fail
            refine (HC3.out _ KW_w2.out).mono ?_
            rintro e w3 ⟨rfl, hb3⟩
            have X3 := (hb3.cell (p := ⟨w.heap.size, 1, none⟩) (lt_cell X_w2)).trans X_w2
            go_wp2_with fail
            go_roundw
            case rel => exact ⟨i + 1, by omega, by go_num, E.out, X3, bl2 KW_w2.out hb3⟩
            case measure => simp [intOf]; omega
        · have c' : ¬ (i : Int) < (n2 : Int) := by omega
          have E : Hid ((ds.all (fun d => decide (d.name.length ≤ 1000)) && es.all smallX) = true) := by
            show _ = _
            rw [A1.out, all_whole (by have := HN.out.2; omega) hs.out]; rfl
          go_wp2_with fail
          go_ret
          exact ⟨ret_bool E.out.symm, hb⟩
/-- Small tells whether a program isn't too great for a look. -/
theorem smallP_any (ds : List Dl) (es : List Px) (v : Value) (hi : Nat) (w : World) (h : PV hi w v ds es) (hhi : hi ≤ w.heap.size) (hz : ∀ x ∈ es, szX x ≤ 1000000000000000) :
    Calls Tryz.prog 10 #[v] w fun e w' => e = .returned (.bool (smallP ds es)) ∧ Below w.heap.size w w' := by
  obtain ⟨a1, c1, a2, c2, rfl, hd, he⟩ := h
  unfold smallP
  by_cases hq : ds.length ≤ 40 ∧ es.length ≤ 10
  · rw [decide_eq_true hq.1, decide_eq_true hq.2, Bool.true_and, Bool.true_and]
    exact small_walk ds es a1 a2 _ c1 _ c2 hi w rfl rfl ⟨hd.row, he.row, hd.names, hhi⟩ hq.1 hq.2 hz
  · have e : (decide (ds.length ≤ 40) && decide (es.length ≤ 10) && ds.all (fun d => decide (d.name.length ≤ 1000)) && es.all smallX) = false := by
      rw [← Bool.not_eq_true]
      simp only [Bool.and_eq_true, decide_eq_true_iff]
      exact fun h => hq ⟨h.1.1.1, h.1.1.2⟩
    rw [e]
    exact small_great _ _ _ _ _ _ w hq
end Go.Proofs.YtkljakeccfnakaaGreatDoor

namespace Go.Proofs.YtkljakeccfnakaaGreatDoor
open Go.RowKit

def toD (d : Ex) : Dl := ⟨d.kind, d.text, d.n, d.pl⟩
theorem ex_px {lo : Nat} {w : World} {v : Value} {x : Ex} (h : ExV lo w v x) : wfX (toX x) = true → PxV w.heap.size w v (toX x) := by
  induction h with
  | leaf k t o n p =>
    intro hw
    obtain ⟨h1, -⟩ := wf_node hw
    have hp := node_pat h1
    exact PxV.mk (k : Int) t o n (p : Int) none 0 [] (fun _ => undef) ⟨by have := hp.text; show t.length ≤ _; exact Nat.le_trans this (by decide), by have := hp.other; show o.length ≤ _; exact Nat.le_trans this (by decide)⟩ ⟨Nat.le_refl _, by simp⟩ (Or.inl rfl) (fun j x h => by simp at h)
  | node k t o n p b off cap kids vs hlo hb hcap hc hk ih =>
    intro hw
    obtain ⟨h1, h2⟩ := wf_node hw
    have hp := node_pat h1
    have hkk : (toX (.mk k t o n p kids)).kids = kids.map toX := by show toXL kids = _; exact toXL_map kids
    rw [hkk] at h2
    have e : toX (.mk k t o n p kids) = .mk (k : Int) t o n (p : Int) (kids.map toX) := by rw [toX, toXL_map]
    rw [e]
    have hv : exV k t o n p (.slice (some ⟨b, off, none⟩) kids.length cap) = pxV (k : Int) t o n (p : Int) (.slice (some ⟨b, off, none⟩) (kids.map toX).length cap) := by rw [List.length_map]; rfl
    rw [hv]
    refine PxV.mk (k : Int) t o n (p : Int) _ cap (kids.map toX) vs ⟨Nat.le_trans hp.text (by decide), Nat.le_trans hp.other (by decide)⟩ ⟨by rw [List.length_map]; exact hcap.1, by rw [List.length_map]; omega⟩ (Or.inr ⟨b, off, rfl, hb, by rw [List.length_map]; exact hc⟩) (fun j y hy => ?_)
    rw [List.getElem?_map, Option.map_eq_some_iff] at hy
    obtain ⟨z, hz, rfl⟩ := hy
    exact ih j z hz (h2 _ (List.mem_map_of_mem (List.mem_of_getElem? hz)))
theorem pr_pv {lo : Nat} {w : World} {v : Value} {ds es : List Ex} (h : PrV lo w v ds es) (hd : ∀ d ∈ ds, d.text.length ≤ 140737488351232) (he : ∀ x ∈ es, wfX (toX x) = true) : PV w.heap.size w v (ds.map toD) (es.map toX) := by
  obtain ⟨vd, vx, rfl, ⟨h8, a, cap, rfl, hcap, hr⟩, hx⟩ := h
  cases hx with
  | leaf =>
    refine ⟨a, cap, none, 0, by rw [List.length_map]; rfl, ⟨⟨by rw [List.length_map]; exact hcap, by rw [List.length_map]; omega⟩, ?_, ?_⟩, ⟨⟨by simp, by simp⟩, Or.inl rfl⟩⟩
    · intro d hm
      obtain ⟨z, hz, rfl⟩ := List.mem_map.1 hm
      exact hd z hz
    · refine hr.imp (fun e => by rw [e]; rfl) ?_
      rintro ⟨b, off, rfl, _, hb, hc⟩
      refine ⟨b, off, rfl, hb, fun j d hj => ?_⟩
      rw [List.getElem?_map, Option.map_eq_some_iff] at hj
      obtain ⟨z, hz, rfl⟩ := hj
      exact hc j z hz
  | node _ _ _ _ _ b2 off2 cap2 _ vs hlo hb hcap2 hc hk =>
    refine ⟨a, cap, some ⟨b2, off2, none⟩, cap2, by rw [List.length_map, List.length_map]; rfl, ⟨⟨by rw [List.length_map]; exact hcap, by rw [List.length_map]; omega⟩, ?_, ?_⟩, ⟨⟨by rw [List.length_map]; exact hcap2.1, by rw [List.length_map]; omega⟩, Or.inr ⟨b2, off2, rfl, hb, fun j y hy => ?_⟩⟩⟩
    · intro d hm
      obtain ⟨z, hz, rfl⟩ := List.mem_map.1 hm
      exact hd z hz
    · refine hr.imp (fun e => by rw [e]; rfl) ?_
      rintro ⟨b, off, rfl, _, hb, hc⟩
      refine ⟨b, off, rfl, hb, fun j d hj => ?_⟩
      rw [List.getElem?_map, Option.map_eq_some_iff] at hj
      obtain ⟨z, hz, rfl⟩ := hj
      exact hc j z hz
    · rw [List.getElem?_map, Option.map_eq_some_iff] at hy
      obtain ⟨z, hz, rfl⟩ := hy
      have hj : j < es.length := (List.getElem?_eq_some_iff.1 hz).1
      have hp := ex_px (hk j z hz) (he z (List.mem_of_getElem? hz))
      have c := hc j hj
      obtain ⟨a3, c3, e3, -⟩ := hp.form
      rw [e3] at hp c
      exact ⟨a3, c3, ⟨c 0 (by omega), c 1 (by omega), c 2 (by omega), c 3 (by omega), c 4 (by omega), c 5 (by omega)⟩, hp⟩

def wakeL : List UInt8 := [100, 111, 109, 97, 105, 110, 32, 120, 32, 58, 61, 32, 49, 59, 32, 33, 120, 32, 101, 110, 100]
def wakeTs : List Tok := [⟨2, [100, 111, 109, 97, 105, 110], 0, 0⟩, ⟨1, [120], 0, 7⟩, ⟨4, [58, 61], 0, 9⟩, ⟨3, [49], 1, 12⟩, ⟨4, [59], 0, 13⟩, ⟨4, [33], 0, 15⟩, ⟨1, [120], 0, 16⟩, ⟨2, [101, 110, 100], 0, 18⟩]
theorem wake_lex5 : lexT wakeL = .ok wakeTs := by rfl
def wakeX : Ex := .mk 9 [] [] 0 7 [.mk 11 [120] [] 0 7 [.mk 1 [] [] 1 12 []], .mk 10 [120] [] 0 15 []]
theorem wake_parse : parseO 21 wakeTs = .ok (progE [] [wakeX]) [] := by rfl
theorem progE_inj {ds es ds' es' : List Ex} (h : progE ds es = progE ds' es') : ds = ds' ∧ es = es' := by
  simp only [progE, Ex.mk.injEq, true_and] at h
  obtain ⟨h1, h2⟩ := h
  have hl : ds.length = ds'.length := by omega
  exact List.append_inj h2 hl
theorem itoa1 : Lib.itoa 1 = [49] := by
  unfold Lib.itoa
  rw [if_neg (by decide), Lib.decDigits]; rfl
theorem wake_form : progB [] [toX wakeX] = true := by decide +kernel
def wakeS : List UInt8 := [100, 111, 109, 97, 105, 110, 32, 40, 40, 120, 32, 58, 61, 32, 49, 41, 59, 32, 33, 120, 41, 32, 101, 110, 100, 10]
theorem wake_show : shwP [] [toX wakeX] = wakeS := by
  simp [shwP, domT, wakeX, toX, toXL, shwX, shwXL, pick3, pcs, weave, wv, itoa1, wakeS]
theorem wake_wf : wfX (toX wakeX) = true := by decide +kernel
set_option maxHeartbeats 4000000 in
theorem awake_any (w : World) (hw : Ok w.heap.size w) : Calls Tryz.prog 9 #[] w fun e w' => e = .returned (.bool true) ∧ Below w.heap.size w w' := by
  have HP : Hid (Calls Tryz.prog 15 #[.string ⟨wakeL.toArray⟩] w fun e w' => (∃ a1 c1 a2 c2, e = .returned (.tuple #[prv a1 0 c1 a2 1 c2, .int .i64 0, .int .i64 0]) ∧ PV w'.heap.size w' (prv a1 0 c1 a2 1 c2) [] [toX wakeX]) ∧ Below w.heap.size w w') := by
    refine (parseC_holds.parse ⟨wakeL.toArray⟩ w (by decide)).mono fun e w' ⟨⟨v, c, p, he, h⟩, hb⟩ => ⟨?_, hb⟩
    unfold ParseA at h
    rw [show lexT (⟨wakeL.toArray⟩ : ByteArray).data.toList = .ok wakeTs from wake_lex5] at h
    dsimp only at h
    rw [show parseO wakeL.length wakeTs = .ok (progE [] [wakeX]) [] from wake_parse] at h
    obtain ⟨rfl, rfl, ds, es, hX, hp⟩ := h
    obtain ⟨rfl, rfl⟩ := progE_inj hX
    have hv := pr_pv hp (fun d hd => by simp at hd) (fun x hx => by simp at hx; subst hx; exact wake_wf)
    obtain ⟨a1, c1, a2, c2, ev, h1, h2⟩ := hv
    exact ⟨a1, c1, a2, c2, by rw [he, ev]; rfl, a1, c1, a2, c2, rfl, h1, h2⟩
  have HO := Hid.intro hw
  clear hw
  unfold wakeL at HP
  go_enter Tryz.func9, Tryz.ntmps9
  go_wp2_with fail
  refine HP.out.mono ?_
  rintro e w1 ⟨⟨a1, c1, a2, c2, rfl, hp⟩, hb1⟩
  unfold prv at *
  have HV := Hid.intro hp
  have HB1 := Hid.intro hb1
  have HS : Hid (∀ W, Below w1.heap.size w1 W → Calls Tryz.prog 11 #[.agg #[.slice a1 0 c1, .slice a2 1 c2]] W fun e w' => e = .returned (.tuple #[.string ⟨#[100, 111, 109, 97, 105, 110, 32, 40, 40, 120, 32, 58, 61, 32, 49, 41, 59, 32, 33, 120, 41, 32, 101, 110, 100, 10]⟩, .int .i64 0]) ∧ Below W.heap.size W w') := fun W hW => by
    have hBW : Below w.heap.size w W := bl2 HB1.out hW
    refine (showP_any [] [toX wakeX] _ w1.heap.size W (HV.out.keep hW) hW.size ((HO.out.keep hBW).up hBW.size) (fun _ => by rw [wake_show]; decide)).mono ?_
    rintro e w' ⟨rfl, hb⟩
    rw [wake_form, wake_show]
    exact ⟨rfl, hb⟩
  have HF : Hid (∀ W, Below w1.heap.size w1 W → Calls Tryz.prog 13 #[.agg #[.slice a1 0 c1, .slice a2 1 c2]] W fun e w' => e = .returned (.bool true) ∧ Below W.heap.size W w') := fun W hW => by
    refine (formedP_any [] [toX wakeX] _ w1.heap.size W (HV.out.keep hW) hW.size).mono ?_
    rintro e w' ⟨rfl, hb⟩
    rw [wake_form]
    exact ⟨rfl, hb⟩
  clear hp hb1
  go_wp2_with fail
  refine (HS.out _ (ba (Below.refl _ _))).mono ?_
  rintro e w2 ⟨rfl, hb2⟩
  have p0 : w2.cell? ⟨w1.heap.size, 0, none⟩ = some (.slice a1 0 c1) := (hb2.cell (p := ⟨w1.heap.size, 0, none⟩) (by simp)).trans (by go_simp)
  have p1 : w2.cell? ⟨w1.heap.size, 1, none⟩ = some (.slice a2 1 c2) := (hb2.cell (p := ⟨w1.heap.size, 1, none⟩) (by simp)).trans (by go_simp)
  have lp := lt_cell p0
  have HB2 : Hid (Below w1.heap.size w1 w2) := bl2 (ba (Below.refl _ _)) hb2
  clear hb2
  go_wp2_with fail
  refine (HF.out _ HB2.out).mono ?_
  rintro e w3 ⟨rfl, hb3⟩
  go_wp2_with fail
  go_ret
  exact ⟨rfl, bl2 HB1.out (bl2 HB2.out hb3)⟩
end Go.Proofs.YtkljakeccfnakaaGreatDoor
