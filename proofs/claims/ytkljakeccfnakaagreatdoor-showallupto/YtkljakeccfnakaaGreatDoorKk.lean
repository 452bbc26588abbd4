/-
  The walk of a whole program.
  The contract of Parse holds.
-/
import Derived.Test.YtkljakeccfnakaaGreatDoorKl
import Derived.Test.YtkljakeccfnakaaGreatDoorKJ
import Derived.Test.YtkljakeccfnakaaGreatDoorHR
import Derived.Test.YtkljakeccfnakaaGreatDoorLm
namespace Go.Proofs.YtkljakeccfnakaaGreatDoor
open Go.RowKit

theorem info53 : ∃ i0, Tryz.prog.info? 46 = some i0 ∧ i0.zero = some (.agg #[.int .i64 0, .string ⟨#[]⟩, .int .i64 0, .int .i64 0]) ∧ i0.size = 4 ∧ i0.bytes = 40 := by
  have h : (Tryz.prog.info? 46).map (fun i => (i.zero, i.size, i.bytes)) = some (some (.agg #[.int .i64 0, .string ⟨#[]⟩, .int .i64 0, .int .i64 0]), 4, 40) := by kernel_rfl
  cases e : Tryz.prog.info? 46 with
  | none => rw [e] at h; cases h
  | some i =>
    rw [e] at h
    simp only [Option.map_some, Option.some.injEq, Prod.mk.injEq] at h
    exact ⟨i, rfl, h.1, h.2.1, h.2.2⟩
theorem info40 : ∃ i0, Tryz.prog.info? 49 = some i0 ∧ i0.zero = some (.agg #[.int .i64 0, .string ⟨#[]⟩, .string ⟨#[]⟩, .int .i64 0, .int .i64 0, .slice none 0 0]) ∧ i0.size = 6 ∧ i0.bytes = 80 := by
  have h : (Tryz.prog.info? 49).map (fun i => (i.zero, i.size, i.bytes)) = some (some (.agg #[.int .i64 0, .string ⟨#[]⟩, .string ⟨#[]⟩, .int .i64 0, .int .i64 0, .slice none 0 0]), 6, 80) := by kernel_rfl
  cases e : Tryz.prog.info? 49 with
  | none => rw [e] at h; cases h
  | some i =>
    rw [e] at h
    simp only [Option.map_some, Option.some.injEq, Prod.mk.injEq] at h
    exact ⟨i, rfl, h.1, h.2.1, h.2.2⟩
set_option maxRecDepth 100000 in
set_option maxHeartbeats 20000000 in
theorem program_reads (f : Nat) (KS : ∀ Z R en g, Reads Z R en g 107 .seq) : ProgK f := by
  intro Z R en ts w hw hO
  have lz : Z ≤ w.heap.size := hw.size
  have lr : R < Z := hw.rz
  have hl15 : ts.length ≤ 1500 := by obtain ⟨a, cap, _, _, _, h, _⟩ := hw.ex; exact h
  have HO := Hid.intro hO
  have HW := Hid.intro hw
  have HKS := Hid.intro (KS Z R en)
  obtain ⟨i0, hi0, hz0, hz1, hz2⟩ := info53
  obtain ⟨j0, hj0, hy0, hy1, hy2⟩ := info40
  have HI0 := Hid.intro (And.intro hi0 (And.intro hz0 (And.intro hz1 hz2)))
  have HJ0 := Hid.intro (And.intro hj0 (And.intro hy0 (And.intro hy1 hy2)))
  clear hw hO KS hi0 hz0 hz1 hz2 hj0 hy0 hy1 hy2
  have F3 := fld3
  have HL15 := Hid.intro hl15
  clear hl15
  generalize hOO : P en f (.decls 0 []) ts = O at *
  have HOO := Hid.intro hOO
  clear hOO
  go_enter Tryz.func37, Tryz.ntmps37
  go_wp2_with fail
  go_loopw [4] (fun v wr => ∃ (locs g : Nat) (ds : List Ex) (us : List Tok) (a : Option Addr) (cap : Nat), v = .int .i64 (locs : Int) ∧ locs ≤ 16 ∧ ds.length ≤ 8 ∧ us.length ≤ ts.length ∧ Hid (Box2 wr (w.heap.size) (.slice none 0 0) (.slice none 0 0)) ∧ Hid (Box2 wr (w.heap.size + 1) (.slice a ds.length cap) (.slice none 0 0)) ∧ Hid (wr.ownsRow (w.heap.size + 1 + 1) 46 4 (.slice a ds.length cap) ds.length (cellsD ds)) ∧ Hid (St Z R en wr us) ∧ Hid (But R w wr) ∧ Hid (P en g (.decls locs ds) us = O)) (fun _ wr => tokLen R wr)
  case atStart => exact ⟨0, f, [], ts, none, 0, rfl, by omega, by simp, Nat.le_refl _, Hid.intro (Box2.alloc _ (Box2.new rfl)), Hid.intro (Box2.new (by simp)), Hid.intro (World.ownsRow_nil _ _ _ _), Hid.intro (HW.out.below (by repeat (first | with_reducible exact Below.refl _ _ | with_reducible refine Below.alloc ?_ (by first | omega | (simp; done) | (simp; omega)) _ | with_reducible refine Below.drew ?_ | with_reducible refine Below.setCell ?_ (by first | (dsimp only; omega) | (simp; omega)) _ ))), Hid.intro (by repeat (first | with_reducible exact But.refl _ _ | with_reducible refine But.alloc ?_ _ | with_reducible refine But.drew ?_ | with_reducible refine But.setCell ?_ (by first | (left; dsimp only; omega) | (left; simp; omega)) _ | with_reducible refine But.trans ?_ (by assumption) | with_reducible refine But.below ?_ (by assumption))), HOO⟩
  case round =>
    obtain ⟨locs, g, ds, us, a, cap, rfl, h16, h8, hus, HR, HP, HD, HS, HB, HI⟩ := hrel
    have hB := HB.out
    have lB := hB.size
    have lR := HR.out.lt
    have lP := HP.out.lt
    have HUS := Hid.intro hus
    have H8 := Hid.intro h8
    clear hus h8
    cases g with
    | zero => exact absurd (HI.out.symm.trans rfl) HO.out
    | succ g =>
      have HI2 : Hid (runC en (P en g) (declsC locs ds) us = O) := HI
      clear HI HOO
      go_wp2_with fail
      refine (seesDecl_any Z R en us _ (HS.out.below (by repeat (first | with_reducible exact Below.refl _ _ | with_reducible refine Below.alloc ?_ (by first | omega | (simp; done) | (simp; omega)) _ | with_reducible refine Below.drew ?_ | with_reducible refine Below.setCell ?_ (by first | (dsimp only; omega) | (simp; omega)) _ )))).mono ?_
      rintro e w1 ⟨rfl, hp1⟩
      have hb1 := But.of (R := R) hp1
      have l1 := hb1.size
      (try simp at l1)
      have HR1 : Hid (Box2 w1 (w.heap.size) (.slice none 0 0) (.slice none 0 0)) := Hid.intro (Box2.but hb1 (by first | omega | (simp; done) | (simp; omega)) (by repeat (first | with_reducible exact HR.out | with_reducible refine Box2.drew ?_ | with_reducible refine Box2.alloc _ ?_ | with_reducible refine Box2.other (by first | (dsimp only; omega) | (simp; omega)) ?_)))
      have HP1 : Hid (Box2 w1 (w.heap.size + 1) (.slice a ds.length cap) (.slice none 0 0)) := Hid.intro (Box2.but hb1 (by first | omega | (simp; done) | (simp; omega)) (by repeat (first | with_reducible exact HP.out | with_reducible refine Box2.drew ?_ | with_reducible refine Box2.alloc _ ?_ | with_reducible refine Box2.other (by first | (dsimp only; omega) | (simp; omega)) ?_)))
      have HS1 : Hid (St Z R en w1 us) := Hid.intro (St.to (HS.out.below (by repeat (first | with_reducible exact Below.refl _ _ | with_reducible refine Below.alloc ?_ (by first | omega | (simp; done) | (simp; omega)) _ | with_reducible refine Below.drew ?_ | with_reducible refine Below.setCell ?_ (by first | (dsimp only; omega) | (simp; omega)) _ ))) hp1)
      have HD1 : Hid (w1.ownsRow (w.heap.size + 1 + 1) 46 4 (.slice a ds.length cap) ds.length (cellsD ds)) := Hid.intro (row_but HD.out hb1 (by first | omega | (simp; done) | (simp; omega)))
      clear hp1 HR HP HD
      cases cD : hd isDecl us
      · have HI3 : Hid (P en g (.doms ds []) us = O) := Hid.intro ((decls_none cD).symm.trans HI2.out)
        clear cD HI2
        have HDL : Hid (∀ k, Value.ownBlock (.slice a ds.length cap) = some k → k < w1.heap.size) := Hid.intro (fun k hk => (HD1.out.lt k hk).2)
        go_wp2_with fail
        go_loopw [35] (fun _ wq => ∃ (g : Nat) (es : List Ex) (vs : List Tok) (b : Option Addr) (cb : Nat), es.length + vs.length ≤ ts.length ∧ Hid (Box2 wq (w.heap.size) (.slice none 0 0) (.slice none 0 0)) ∧ Hid (Box2 wq (w.heap.size + 1) (.slice a ds.length cap) (.slice b es.length cb)) ∧ Hid (wq.ownsRow (w.heap.size + 1 + 1) 46 4 (.slice a ds.length cap) ds.length (cellsD ds)) ∧ Hid (ExRow w1.heap.size wq (.slice b es.length cb) es) ∧ Hid (St Z R en wq vs) ∧ Hid (But R w wq) ∧ w1.heap.size ≤ wq.heap.size ∧ Hid (P en g (.doms ds es) vs = O)) (fun _ wq => tokLen R wq)
        case atStart => exact ⟨g, [], us, none, 0, (by have := HUS.out; simp; omega), HR1, HP1, HD1, Hid.intro ExRow.nil, Hid.intro (HS1.out.below (by repeat (first | with_reducible exact Below.refl _ _ | with_reducible refine Below.alloc ?_ (by first | omega | (simp; done) | (simp; omega)) _ | with_reducible refine Below.drew ?_ | with_reducible refine Below.setCell ?_ (by first | (dsimp only; omega) | (simp; omega)) _ ))), Hid.intro (by repeat (first | with_reducible exact But.refl _ _ | with_reducible refine But.alloc ?_ _ | with_reducible refine But.drew ?_ | with_reducible refine But.setCell ?_ (by first | (left; dsimp only; omega) | (left; simp; omega)) _ | with_reducible refine But.trans ?_ (by assumption) | with_reducible refine But.below ?_ (by assumption))), Nat.le_refl _, HI3⟩
        case round =>
          clear hB HS HB HS1 HI3 HR1 HP1 HD1 HUS
          obtain ⟨g, es, us, b, cb, hes, HR, HP, HD, HE, HS, HB, lE, HI⟩ := hrel
          have hB := HB.out
          have lB2 := hB.size
          have lR2 := HR.out.lt
          have lP2 := HP.out.lt
          have HES := Hid.intro hes
          clear hes
          cases g with
          | zero => exact absurd (HI.out.symm.trans rfl) HO.out
          | succ g =>
            have HI2 : Hid (runC en (P en g) (domsC ds es) us = O) := HI
            clear HI
            obtain ⟨p0, p1, pf0, pf1⟩ := HP.out.cells
            obtain ⟨ra, rc, hrb, _, _, hlen15, _⟩ := HS.out.ex
            obtain ⟨r0, r1, rf0, rf1, rl⟩ := new2 hrb
            have hul := HS.out.len
            have HUL := Hid.intro hul
            clear hrb hul
            have HGO : Hid (es = [] ∨ us ≠ [] → ¬ (es.length = 3 ∧ hd (isT [100, 111, 109, 97, 105, 110]) us = true) → runC en (P en g) (domC fun e => .call (.doms ds (es ++ [e])) .ret) us = O) := Hid.intro (fun h1 h2 => (doms_go h1 h2).symm.trans HI2.out)
            by_cases cE : es = [] ∨ us ≠ []
            rotate_left
            · have ce : es ≠ [] := fun e => cE (Or.inl e)
              have cu : us = [] := by cases us with | nil => rfl | cons a r => exact absurd (Or.inr (by simp)) cE
              have hp0 : 0 < es.length := List.length_pos_iff.2 ce
              have k1 : ((es.length : Int) == 0) = false := by rw [beq_eq_false_iff_ne]; omega
              have k2 : ¬ (0 : Int) < (us.length : Int) := by rw [cu]; simp
              have HOK : Hid (O = .ok (progE ds es) us) := Hid.intro (HI2.out.symm.trans (doms_end (by omega) cu))
              have HCE := Hid.intro ce
              clear ce cE cu HGO HI2 hp0
              obtain ⟨z0, z1, zf0, zf1⟩ := HR.out.cells
              go_wp2
              refine bodyPost_ret (v := .agg #[.slice a ds.length cap, .slice b es.length cb]) (by simp [results, Tryz.results37, go_sem, *]) rfl ⟨(by repeat (first | with_reducible exact But.refl _ _ | with_reducible refine But.alloc ?_ _ | with_reducible refine But.drew ?_ | with_reducible refine But.setCell ?_ (by first | (left; dsimp only; omega) | (left; simp; omega)) _ | with_reducible refine But.trans ?_ (by assumption) | with_reducible refine But.below ?_ (by assumption))), Or.inl ⟨_, rfl, ds, es, ?_, us, HOK.out⟩⟩
              exact ⟨_, _, rfl, ((dcsl_of HD.out H8.out).keep (by repeat (first | with_reducible exact Kept.refl _ _ | with_reducible refine Kept.setCell ?_ (by first | (left; dsimp only; omega) | (left; simp; omega)) _))).low (by first | omega | (simp; done) | (simp; omega)), ((HE.out.ex HCE.out (by have := HES.out; have := HL15.out; omega)).keep (by repeat (first | with_reducible exact Kept.refl _ _ | with_reducible refine Kept.setCell ?_ (by first | (left; dsimp only; omega) | (left; simp; omega)) _))).low (by first | omega | (simp; done) | (simp; omega))⟩
            have HGE := Hid.intro (HGO.out cE)
            have kE : (((es.length : Int) == 0) = true) ∨ (((es.length : Int) == 0) = false ∧ (0 : Int) < (us.length : Int)) := by
              rcases cE with h | h
              · left; rw [h]; rfl
              · by_cases c0 : es.length = 0
                · left; rw [c0]; rfl
                · right; refine ⟨by rw [beq_eq_false_iff_ne]; omega, ?_⟩; have := List.length_pos_iff.2 h; omega
            clear cE HGO
            rcases kE with k1 | ⟨k1, k2⟩
            · have c3 : es.length ≠ 3 := fun c3 => absurd k1 (by rw [c3]; decide)
              have k3 : ((es.length : Int) == 3) = false := by rw [beq_eq_false_iff_ne]; omega
              have HG5 : Hid (runC en (P en g) (domC fun e => .call (.doms ds (es ++ [e])) .ret) us = O) := Hid.intro (HGE.out (fun h => c3 h.1))
              clear HGE c3 HI2
              go_wp2_with fail
              clear r0 r1 rf0 rf1 rl
              refine wp_region_held_tail (S := fun w' => Box2 w' (w.heap.size + 1) (.slice a ds.length cap) (.slice b es.length cb)) 6 (by kernel_rfl) (by kernel_rfl) (by repeat (first | with_reducible exact HP.out | with_reducible refine Box2.drew ?_ | with_reducible refine Box2.alloc _ ?_ | with_reducible refine Box2.other (by first | (dsimp only; omega) | (simp; omega)) ?_)) (fun hHeld => ?_)
              simp only [List.take_succ_cons, List.take_zero, List.drop_succ_cons, List.drop_zero]
              refine wpAnyH_take (i := 0) (v := .pointer (some ⟨w.heap.size + 1, 1, none⟩)) rfl (by kernel_rfl) (by kernel_rfl) (by kernel_rfl) (fun _ _ _ h => h) (Or.inl ⟨by rfl, by intro w _; go_simp⟩) hHeld ?_
              refine wpAnyH_take (i := 1) (v := .slice b es.length cb) rfl (by kernel_rfl) (by kernel_rfl) (by kernel_rfl) (fun _ _ _ h => h) (Or.inl ⟨by rfl, by intro w hS; obtain ⟨p0, p1, pf0, pf1⟩ := Box2.cells hS; go_simp⟩) hHeld ?_
              refine wpAnyH_take (i := 2) (v := .pointer (some ⟨R, 0, none⟩)) rfl (by kernel_rfl) (by kernel_rfl) (by kernel_rfl) (fun _ _ _ h => h) (Or.inl ⟨by rfl, by intro w _; go_simp⟩) hHeld ?_
              refine wpAnyH_ready (rs := [3]) (by kernel_rfl) (by simp) ?_
              refine AllReadyH.cons rfl (fun K hK => ?_) AllReadyH.nil
              go_simp
              refine (domain_step (HKS.out g) _ (HS.out.below (by repeat (first | with_reducible exact Below.refl _ _ | with_reducible refine Below.alloc ?_ (by first | omega | (simp; done) | (simp; omega)) _ | with_reducible refine Below.drew ?_ | with_reducible refine Below.setCell ?_ (by first | (dsimp only; omega) | (simp; omega)) _ ))) HO.out HG5.out).mono ?_
              rintro e w2 ⟨hb2, ⟨v2, x2, r2, rfl, hx2, hs, hG, hlt⟩ | ⟨c, p, rfl, hG⟩⟩
              rotate_left
              · exact ⟨rfl, (by repeat (first | with_reducible exact But.refl _ _ | with_reducible refine But.alloc ?_ _ | with_reducible refine But.drew ?_ | with_reducible refine But.setCell ?_ (by first | (left; dsimp only; omega) | (left; simp; omega)) _ | with_reducible refine But.trans ?_ (by assumption) | with_reducible refine But.below ?_ (by assumption))), Or.inr ⟨c, p, rfl, hG⟩⟩
              obtain ⟨nn2, tx2, ox2, a2, ln2, cp2, rfl, htx2⟩ := hx2.form2
              have HX2 := Hid.intro hx2
              have HS2 := Hid.intro hs
              have HQ2 : Hid (P en g (.doms ds (es ++ [x2])) r2 = O) := Hid.intro (by rw [← hG, run_tail])
              have HLT := Hid.intro hlt
              clear hx2 hs htx2 hG hlt HG5
              have l2 := hb2.size
              (try simp at l2)
              have HR2 : Hid (Box2 w2 (w.heap.size) (.slice none 0 0) (.slice none 0 0)) := Hid.intro (Box2.but hb2 (by first | omega | (simp; done) | (simp; omega)) (by repeat (first | with_reducible exact HR.out | with_reducible refine Box2.drew ?_ | with_reducible refine Box2.alloc _ ?_ | with_reducible refine Box2.other (by first | (dsimp only; omega) | (simp; omega)) ?_)))
              have HP2 : Hid (Box2 w2 (w.heap.size + 1) (.slice a ds.length cap) (.slice b es.length cb)) := Hid.intro (Box2.but hb2 (by first | omega | (simp; done) | (simp; omega)) (by repeat (first | with_reducible exact HP.out | with_reducible refine Box2.drew ?_ | with_reducible refine Box2.alloc _ ?_ | with_reducible refine Box2.other (by first | (dsimp only; omega) | (simp; omega)) ?_)))
              have HD2 : Hid (w2.ownsRow (w.heap.size + 1 + 1) 46 4 (.slice a ds.length cap) ds.length (cellsD ds)) := Hid.intro (row_but HD.out.drew hb2 (by first | omega | (simp; done) | (simp; omega)))
              have HE2 := Hid.intro (ExRow.but HE.out.drew hb2 (by first | omega | (simp; done) | (simp; omega)))
              have HRL : Hid (∀ k, Value.ownBlock (.slice b es.length cb) = some k → k < wr.heap.size) := Hid.intro (fun k hk => by obtain ⟨zs, _, hrow, _⟩ := HE.out; exact (hrow.lt k hk).2)
              refine hK.out _ _ (by repeat (first | with_reducible exact HP2.out | with_reducible refine Box2.drew ?_ | with_reducible refine Box2.alloc _ ?_ | with_reducible refine Box2.other (by first | (dsimp only; omega) | (simp; omega)) ?_)) (fun hHeld => ?_)
              clear hK K
              refine wpAnyH_ready (rs := [4]) (by kernel_rfl) (by simp) ?_
              refine AllReadyH.cons rfl (fun K hK => ?_) AllReadyH.nil
              go_simp
              refine hK.out _ _ (by repeat (first | with_reducible exact HP2.out | with_reducible refine Box2.drew ?_ | with_reducible refine Box2.alloc _ ?_ | with_reducible refine Box2.other (by first | (dsimp only; omega) | (simp; omega)) ?_)) (fun hHeld => ?_)
              clear hK K
              obtain ⟨zs, hz1, hrow, hz3⟩ := HE2.out
              obtain ⟨hj0, hy0, hy1, hy2⟩ := HJ0.out
              refine wpAnyH_list (i := 5) (by kernel_rfl) rfl rfl ?_
              refine wpList_append_own_at _ rfl _ _ 23 rfl w1.heap.size 49 j0 _ 6 80 (by kernel_rfl) hj0 hy0 hy1 hy2 rfl (by omega) (.slice b es.length cb) es.length (zs.flatMap comps6) rfl (row_alloc hrow _) ⟨w2.heap.size, 0, none⟩ 1 1 [.int .i64 (x2.kind : Int), .string tx2, .string ox2, .int .i64 nn2, .int .i64 (x2.pl : Int), .slice a2 ln2 cp2] rfl rfl ?qc2 (by intro u hu; simp at hu; rcases hu with rfl | rfl | rfl | rfl | rfl | rfl <;> rfl) (by unfold maxLen; have := HES.out; have := HL15.out; omega) (by have := HES.out; have := HL15.out; omega) (by first | omega | (simp; done) | (simp; omega)) ?_
              case qc2 =>
                intro z u hz
                match z with
                | 0 => rw [Addr.add_lit]; exact cell_new (by simp) hz
                | 1 => rw [Addr.add_lit]; exact cell_new (by simp) hz
                | 2 => rw [Addr.add_lit]; exact cell_new (by simp) hz
                | 3 => rw [Addr.add_lit]; exact cell_new (by simp) hz
                | 4 => rw [Addr.add_lit]; exact cell_new (by simp) hz
                | 5 => rw [Addr.add_lit]; exact cell_new (by simp) hz
                | z + 6 => simp at hz
              intro v3 w3 hown hgrow _ hwho
              have hrb : ∀ k, Value.ownBlock (.slice b es.length cb) = some k → w1.heap.size ≤ k := fun k hk => (hrow.lt k hk).1
              have HP3 : Hid (Box2 w3 (w.heap.size + 1) (.slice a ds.length cap) (.slice b es.length cb)) := Hid.intro (Box2.grown hgrow (fun k hk => by have := hrb k hk; omega) (Box2.alloc _ HP2.out))
              have HR3 : Hid (Box2 w3 (w.heap.size) (.slice none 0 0) (.slice none 0 0)) := Hid.intro (Box2.grown hgrow (fun k hk => by have := hrb k hk; omega) (Box2.alloc _ HR2.out))
              have HX3 : Hid (ExV ((wr).heap.size) (w2.alloc (.cells #[.int .i64 (x2.kind : Int), .string tx2, .string ox2, .int .i64 nn2, .int .i64 (x2.pl : Int), .slice a2 ln2 cp2] 49 (0, 0))) (.agg #[.int .i64 (x2.kind : Int), .string tx2, .string ox2, .int .i64 nn2, .int .i64 (x2.pl : Int), .slice a2 ln2 cp2]) x2) := Hid.intro ((HX2.out.keep (by repeat (first | with_reducible exact Kept.refl _ _ | with_reducible refine Kept.alloc ?_ _ | with_reducible refine Kept.drew ?_ | with_reducible refine Kept.setCell ?_ (by first | (left; dsimp only; omega) | (right; dsimp only; omega) | (left; simp; omega) | (right; simp; omega)) _ | with_reducible refine Kept.but ?_ (by assumption) (by first | omega | (simp; omega)) | with_reducible refine Kept.below ?_ (by assumption)))).low (by first | omega | (simp; done) | (simp; omega)))
              have HE3 : Hid (ExRow w1.heap.size w3 v3 (es ++ [x2])) := Hid.intro (ExRow.app hz1 (fun j x u h1 h2 => (hz3 j x u h1 h2).keep ((KeptQ.refl _ _).alloc _)) HX3.out (by first | omega | (simp; done) | (simp; omega)) HRL.out hown hgrow hwho)
              have HD3 : Hid (w3.ownsRow (w.heap.size + 1 + 1) 46 4 (.slice a ds.length cap) ds.length (cellsD ds)) := Hid.intro ((row_alloc HD2.out _).kept hgrow (by
                rcases hk : Value.ownBlock (.slice a ds.length cap) with _ | k
                · first | exact Or.inl rfl | exact Or.inl hk
                · right; intro e; have h1 := HDL.out k hk; have h2 := hrb k e.symm; omega))
              have HS3 : Hid (St Z R en w3 r2) := Hid.intro (St.grown (HS2.out.below (by repeat (first | with_reducible exact Below.refl _ _ | with_reducible refine Below.alloc ?_ (by first | omega | (simp; done) | (simp; omega)) _ | with_reducible refine Below.drew ?_ | with_reducible refine Below.setCell ?_ (by first | (dsimp only; omega) | (simp; omega)) _ ))) hgrow (fun k hk => by have := hrb k hk; omega))
              have HB3 : Hid (But R w w3) := Hid.intro (But.grown (w := (w2.alloc (.cells #[.int .i64 (x2.kind : Int), .string tx2, .string ox2, .int .i64 nn2, .int .i64 (x2.pl : Int), .slice a2 ln2 cp2] 49 (0, 0)))) (by repeat (first | with_reducible exact But.refl _ _ | with_reducible refine But.alloc ?_ _ | with_reducible refine But.drew ?_ | with_reducible refine But.setCell ?_ (by first | (left; dsimp only; omega) | (left; simp; omega)) _ | with_reducible refine But.trans ?_ (by assumption) | with_reducible refine But.below ?_ (by assumption))) hgrow (fun k hk => by have := hrb k hk; omega))
              have lm3 : w2.heap.size < w3.heap.size := by have := hgrow.size; simp at this; omega
              show _ ∧ _
              refine ⟨HP3.out, ?_⟩
              refine wpAnyH_done (by kernel_rfl) ?_ _
              show wpList _ _ _ _ _ _
              obtain ⟨a2, c2, rfl⟩ := row_form hown
              clear hown hgrow hwho hrow hz3 hz1
              obtain ⟨q0, q1, qf0, qf1⟩ := HP3.out.cells
              have lq := HP3.out.lt
              have el : Hid ((es ++ [x2]).length = es.length + 1) := Hid.intro (by simp)
              go_wp2_with fail
              go_roundw
              case rel =>
                exact ⟨g, es ++ [x2], r2, a2, c2, by have := HES.out; have := HLT.out; have := el.out; omega, Hid.intro (Box2.other (by first | omega | (simp; done) | (simp; omega)) HR3.out), Hid.intro (by rw [el.out]; exact Box2.set1 HP3.out), Hid.intro (ownsRow_setCell_below HD3.out (by first | omega | (simp; done) | (simp; omega)) _), Hid.intro (by rw [el.out]; exact HE3.out.set (by first | omega | (simp; done) | (simp; omega)) _), Hid.intro (HS3.out.below (by repeat (first | with_reducible exact Below.refl _ _ | with_reducible refine Below.alloc ?_ (by first | omega | (simp; done) | (simp; omega)) _ | with_reducible refine Below.drew ?_ | with_reducible refine Below.setCell ?_ (by first | (dsimp only; omega) | (simp; omega)) _ ))), Hid.intro (But.setCell HB3.out (by first | (left; dsimp only; omega) | (right; dsimp only; omega) | (left; simp; omega) | (right; simp; omega)) _), (by simp; omega), HQ2⟩
              case measure =>
                have h1 := (HS3.out.below (w' := w3.setCell ⟨w.heap.size + 1, 1, none⟩ (.slice a2 (es.length + 1) c2)) (by repeat (first | with_reducible exact Below.refl _ _ | with_reducible refine Below.alloc ?_ (by first | omega | (simp; done) | (simp; omega)) _ | with_reducible refine Below.drew ?_ | with_reducible refine Below.setCell ?_ (by first | (dsimp only; omega) | (simp; omega)) _ ))).len
                have h2 := HUL.out
                have h3 := HLT.out
                omega
            · by_cases c3 : es.length = 3
              · have k3 : ((es.length : Int) == 3) = true := by rw [c3]; rfl
                have HC3 := Hid.intro c3
                clear c3
                go_wp2_with fail
                refine (sees_any Z R en us ⟨#[100, 111, 109, 97, 105, 110]⟩ (by decide) _ (HS.out.below (by repeat (first | with_reducible exact Below.refl _ _ | with_reducible refine Below.alloc ?_ (by first | omega | (simp; done) | (simp; omega)) _ | with_reducible refine Below.drew ?_ | with_reducible refine Below.setCell ?_ (by first | (dsimp only; omega) | (simp; omega)) _ )))).mono ?_
                rintro e w4 ⟨rfl, hp4⟩
                have hb4 := But.of (R := R) hp4
                have l4 := hb4.size
                (try simp at l4)
                have HR4 : Hid (Box2 w4 (w.heap.size) (.slice none 0 0) (.slice none 0 0)) := Hid.intro (Box2.but hb4 (by first | omega | (simp; done) | (simp; omega)) (by repeat (first | with_reducible exact HR.out | with_reducible refine Box2.drew ?_ | with_reducible refine Box2.alloc _ ?_ | with_reducible refine Box2.other (by first | (dsimp only; omega) | (simp; omega)) ?_)))
                have HP4 : Hid (Box2 w4 (w.heap.size + 1) (.slice a ds.length cap) (.slice b es.length cb)) := Hid.intro (Box2.but hb4 (by first | omega | (simp; done) | (simp; omega)) (by repeat (first | with_reducible exact HP.out | with_reducible refine Box2.drew ?_ | with_reducible refine Box2.alloc _ ?_ | with_reducible refine Box2.other (by first | (dsimp only; omega) | (simp; omega)) ?_)))
                have HS4 : Hid (St Z R en w4 us) := Hid.intro (St.to (HS.out.below (by repeat (first | with_reducible exact Below.refl _ _ | with_reducible refine Below.alloc ?_ (by first | omega | (simp; done) | (simp; omega)) _ | with_reducible refine Below.drew ?_ | with_reducible refine Below.setCell ?_ (by first | (dsimp only; omega) | (simp; omega)) _ ))) hp4)
                have HD4 := Hid.intro (row_but HD.out hb4 (by first | omega | (simp; done) | (simp; omega)))
                have HE4 := Hid.intro (HE.out.but hb4 (by first | omega | (simp; done) | (simp; omega)))
                clear hp4 p0 p1 pf0 pf1
                obtain ⟨p0, p1, pf0, pf1⟩ := HP4.out.cells
                rw [show (⟨#[100, 111, 109, 97, 105, 110]⟩ : ByteArray).data.toList = [100, 111, 109, 97, 105, 110] from rfl]
                cases cd : hd (isT [100, 111, 109, 97, 105, 110]) us
                · have HG5 : Hid (runC en (P en g) (domC fun e => .call (.doms ds (es ++ [e])) .ret) us = O) := Hid.intro (HGE.out (fun h => by rw [cd] at h; exact absurd h.2 (by decide)))
                  clear HGE cd k3 HI2
                  go_wp2_with fail
                  clear r0 r1 rf0 rf1 rl
                  refine wp_region_held_tail (S := fun w' => Box2 w' (w.heap.size + 1) (.slice a ds.length cap) (.slice b es.length cb)) 6 (by kernel_rfl) (by kernel_rfl) (by repeat (first | with_reducible exact HP4.out | with_reducible refine Box2.drew ?_ | with_reducible refine Box2.alloc _ ?_ | with_reducible refine Box2.other (by first | (dsimp only; omega) | (simp; omega)) ?_)) (fun hHeld => ?_)
                  simp only [List.take_succ_cons, List.take_zero, List.drop_succ_cons, List.drop_zero]
                  refine wpAnyH_take (i := 0) (v := .pointer (some ⟨w.heap.size + 1, 1, none⟩)) rfl (by kernel_rfl) (by kernel_rfl) (by kernel_rfl) (fun _ _ _ h => h) (Or.inl ⟨by rfl, by intro w _; go_simp⟩) hHeld ?_
                  refine wpAnyH_take (i := 1) (v := .slice b es.length cb) rfl (by kernel_rfl) (by kernel_rfl) (by kernel_rfl) (fun _ _ _ h => h) (Or.inl ⟨by rfl, by intro w hS; obtain ⟨p0, p1, pf0, pf1⟩ := Box2.cells hS; go_simp⟩) hHeld ?_
                  refine wpAnyH_take (i := 2) (v := .pointer (some ⟨R, 0, none⟩)) rfl (by kernel_rfl) (by kernel_rfl) (by kernel_rfl) (fun _ _ _ h => h) (Or.inl ⟨by rfl, by intro w _; go_simp⟩) hHeld ?_
                  refine wpAnyH_ready (rs := [3]) (by kernel_rfl) (by simp) ?_
                  refine AllReadyH.cons rfl (fun K hK => ?_) AllReadyH.nil
                  go_simp
                  refine (domain_step (HKS.out g) _ (HS4.out.below (by repeat (first | with_reducible exact Below.refl _ _ | with_reducible refine Below.alloc ?_ (by first | omega | (simp; done) | (simp; omega)) _ | with_reducible refine Below.drew ?_ | with_reducible refine Below.setCell ?_ (by first | (dsimp only; omega) | (simp; omega)) _ ))) HO.out HG5.out).mono ?_
                  rintro e w5 ⟨hb5, ⟨v5, x5, r5, rfl, hx5, hs, hG, hlt⟩ | ⟨c, p, rfl, hG⟩⟩
                  rotate_left
                  · exact ⟨rfl, (by repeat (first | with_reducible exact But.refl _ _ | with_reducible refine But.alloc ?_ _ | with_reducible refine But.drew ?_ | with_reducible refine But.setCell ?_ (by first | (left; dsimp only; omega) | (left; simp; omega)) _ | with_reducible refine But.trans ?_ (by assumption) | with_reducible refine But.below ?_ (by assumption))), Or.inr ⟨c, p, rfl, hG⟩⟩
                  obtain ⟨nn5, tx5, ox5, a5, ln5, cp5, rfl, htx5⟩ := hx5.form2
                  have HX5 := Hid.intro hx5
                  have HS5 := Hid.intro hs
                  have HQ5 : Hid (P en g (.doms ds (es ++ [x5])) r5 = O) := Hid.intro (by rw [← hG, run_tail])
                  have HLT := Hid.intro hlt
                  clear hx5 hs htx5 hG hlt HG5
                  have l5 := hb5.size
                  (try simp at l5)
                  have HR5 : Hid (Box2 w5 (w.heap.size) (.slice none 0 0) (.slice none 0 0)) := Hid.intro (Box2.but hb5 (by first | omega | (simp; done) | (simp; omega)) (by repeat (first | with_reducible exact HR4.out | with_reducible refine Box2.drew ?_ | with_reducible refine Box2.alloc _ ?_ | with_reducible refine Box2.other (by first | (dsimp only; omega) | (simp; omega)) ?_)))
                  have HP5 : Hid (Box2 w5 (w.heap.size + 1) (.slice a ds.length cap) (.slice b es.length cb)) := Hid.intro (Box2.but hb5 (by first | omega | (simp; done) | (simp; omega)) (by repeat (first | with_reducible exact HP4.out | with_reducible refine Box2.drew ?_ | with_reducible refine Box2.alloc _ ?_ | with_reducible refine Box2.other (by first | (dsimp only; omega) | (simp; omega)) ?_)))
                  have HD5 : Hid (w5.ownsRow (w.heap.size + 1 + 1) 46 4 (.slice a ds.length cap) ds.length (cellsD ds)) := Hid.intro (row_but HD4.out.drew hb5 (by first | omega | (simp; done) | (simp; omega)))
                  have HE5 := Hid.intro (ExRow.but HE4.out.drew hb5 (by first | omega | (simp; done) | (simp; omega)))
                  have HRL : Hid (∀ k, Value.ownBlock (.slice b es.length cb) = some k → k < w4.heap.size) := Hid.intro (fun k hk => by obtain ⟨zs, _, hrow, _⟩ := HE4.out; exact (hrow.lt k hk).2)
                  refine hK.out _ _ (by repeat (first | with_reducible exact HP5.out | with_reducible refine Box2.drew ?_ | with_reducible refine Box2.alloc _ ?_ | with_reducible refine Box2.other (by first | (dsimp only; omega) | (simp; omega)) ?_)) (fun hHeld => ?_)
                  clear hK K
                  refine wpAnyH_ready (rs := [4]) (by kernel_rfl) (by simp) ?_
                  refine AllReadyH.cons rfl (fun K hK => ?_) AllReadyH.nil
                  go_simp
                  refine hK.out _ _ (by repeat (first | with_reducible exact HP5.out | with_reducible refine Box2.drew ?_ | with_reducible refine Box2.alloc _ ?_ | with_reducible refine Box2.other (by first | (dsimp only; omega) | (simp; omega)) ?_)) (fun hHeld => ?_)
                  clear hK K
                  obtain ⟨zs, hz1, hrow, hz3⟩ := HE5.out
                  obtain ⟨hj0, hy0, hy1, hy2⟩ := HJ0.out
                  refine wpAnyH_list (i := 5) (by kernel_rfl) rfl rfl ?_
                  refine wpList_append_own_at _ rfl _ _ 23 rfl w1.heap.size 49 j0 _ 6 80 (by kernel_rfl) hj0 hy0 hy1 hy2 rfl (by omega) (.slice b es.length cb) es.length (zs.flatMap comps6) rfl (row_alloc hrow _) ⟨w5.heap.size, 0, none⟩ 1 1 [.int .i64 (x5.kind : Int), .string tx5, .string ox5, .int .i64 nn5, .int .i64 (x5.pl : Int), .slice a5 ln5 cp5] rfl rfl ?qc2 (by intro u hu; simp at hu; rcases hu with rfl | rfl | rfl | rfl | rfl | rfl <;> rfl) (by unfold maxLen; have := HES.out; have := HL15.out; omega) (by have := HES.out; have := HL15.out; omega) (by first | omega | (simp; done) | (simp; omega)) ?_
                  case qc2 =>
                    intro z u hz
                    match z with
                    | 0 => rw [Addr.add_lit]; exact cell_new (by simp) hz
                    | 1 => rw [Addr.add_lit]; exact cell_new (by simp) hz
                    | 2 => rw [Addr.add_lit]; exact cell_new (by simp) hz
                    | 3 => rw [Addr.add_lit]; exact cell_new (by simp) hz
                    | 4 => rw [Addr.add_lit]; exact cell_new (by simp) hz
                    | 5 => rw [Addr.add_lit]; exact cell_new (by simp) hz
                    | z + 6 => simp at hz
                  intro v6 w6 hown hgrow _ hwho
                  have hrb : ∀ k, Value.ownBlock (.slice b es.length cb) = some k → w1.heap.size ≤ k := fun k hk => (hrow.lt k hk).1
                  have HP6 : Hid (Box2 w6 (w.heap.size + 1) (.slice a ds.length cap) (.slice b es.length cb)) := Hid.intro (Box2.grown hgrow (fun k hk => by have := hrb k hk; omega) (Box2.alloc _ HP5.out))
                  have HR6 : Hid (Box2 w6 (w.heap.size) (.slice none 0 0) (.slice none 0 0)) := Hid.intro (Box2.grown hgrow (fun k hk => by have := hrb k hk; omega) (Box2.alloc _ HR5.out))
                  have HX6 : Hid (ExV ((w4).heap.size) (w5.alloc (.cells #[.int .i64 (x5.kind : Int), .string tx5, .string ox5, .int .i64 nn5, .int .i64 (x5.pl : Int), .slice a5 ln5 cp5] 49 (0, 0))) (.agg #[.int .i64 (x5.kind : Int), .string tx5, .string ox5, .int .i64 nn5, .int .i64 (x5.pl : Int), .slice a5 ln5 cp5]) x5) := Hid.intro ((HX5.out.keep (by repeat (first | with_reducible exact Kept.refl _ _ | with_reducible refine Kept.alloc ?_ _ | with_reducible refine Kept.drew ?_ | with_reducible refine Kept.setCell ?_ (by first | (left; dsimp only; omega) | (right; dsimp only; omega) | (left; simp; omega) | (right; simp; omega)) _ | with_reducible refine Kept.but ?_ (by assumption) (by first | omega | (simp; omega)) | with_reducible refine Kept.below ?_ (by assumption)))).low (by first | omega | (simp; done) | (simp; omega)))
                  have HE6 : Hid (ExRow w1.heap.size w6 v6 (es ++ [x5])) := Hid.intro (ExRow.app hz1 (fun j x u h1 h2 => (hz3 j x u h1 h2).keep ((KeptQ.refl _ _).alloc _)) HX6.out (by first | omega | (simp; done) | (simp; omega)) HRL.out hown hgrow hwho)
                  have HD6 : Hid (w6.ownsRow (w.heap.size + 1 + 1) 46 4 (.slice a ds.length cap) ds.length (cellsD ds)) := Hid.intro ((row_alloc HD5.out _).kept hgrow (by
                    rcases hk : Value.ownBlock (.slice a ds.length cap) with _ | k
                    · first | exact Or.inl rfl | exact Or.inl hk
                    · right; intro e; have h1 := HDL.out k hk; have h2 := hrb k e.symm; omega))
                  have HS6 : Hid (St Z R en w6 r5) := Hid.intro (St.grown (HS5.out.below (by repeat (first | with_reducible exact Below.refl _ _ | with_reducible refine Below.alloc ?_ (by first | omega | (simp; done) | (simp; omega)) _ | with_reducible refine Below.drew ?_ | with_reducible refine Below.setCell ?_ (by first | (dsimp only; omega) | (simp; omega)) _ ))) hgrow (fun k hk => by have := hrb k hk; omega))
                  have HB6 : Hid (But R w w6) := Hid.intro (But.grown (w := (w5.alloc (.cells #[.int .i64 (x5.kind : Int), .string tx5, .string ox5, .int .i64 nn5, .int .i64 (x5.pl : Int), .slice a5 ln5 cp5] 49 (0, 0)))) (by repeat (first | with_reducible exact But.refl _ _ | with_reducible refine But.alloc ?_ _ | with_reducible refine But.drew ?_ | with_reducible refine But.setCell ?_ (by first | (left; dsimp only; omega) | (left; simp; omega)) _ | with_reducible refine But.trans ?_ (by assumption) | with_reducible refine But.below ?_ (by assumption))) hgrow (fun k hk => by have := hrb k hk; omega))
                  have lm6 : w5.heap.size < w6.heap.size := by have := hgrow.size; simp at this; omega
                  show _ ∧ _
                  refine ⟨HP6.out, ?_⟩
                  refine wpAnyH_done (by kernel_rfl) ?_ _
                  show wpList _ _ _ _ _ _
                  obtain ⟨a2, c2, rfl⟩ := row_form hown
                  clear hown hgrow hwho hrow hz3 hz1
                  obtain ⟨q0, q1, qf0, qf1⟩ := HP6.out.cells
                  have lq := HP6.out.lt
                  have el : Hid ((es ++ [x5]).length = es.length + 1) := Hid.intro (by simp)
                  go_wp2_with fail
                  go_roundw
                  case rel =>
                    exact ⟨g, es ++ [x5], r5, a2, c2, by have := HES.out; have := HLT.out; have := el.out; omega, Hid.intro (Box2.other (by first | omega | (simp; done) | (simp; omega)) HR6.out), Hid.intro (by rw [el.out]; exact Box2.set1 HP6.out), Hid.intro (ownsRow_setCell_below HD6.out (by first | omega | (simp; done) | (simp; omega)) _), Hid.intro (by rw [el.out]; exact HE6.out.set (by first | omega | (simp; done) | (simp; omega)) _), Hid.intro (HS6.out.below (by repeat (first | with_reducible exact Below.refl _ _ | with_reducible refine Below.alloc ?_ (by first | omega | (simp; done) | (simp; omega)) _ | with_reducible refine Below.drew ?_ | with_reducible refine Below.setCell ?_ (by first | (dsimp only; omega) | (simp; omega)) _ ))), Hid.intro (But.setCell HB6.out (by first | (left; dsimp only; omega) | (right; dsimp only; omega) | (left; simp; omega) | (right; simp; omega)) _), (by simp; omega), HQ5⟩
                  case measure =>
                    have h1 := (HS6.out.below (w' := w6.setCell ⟨w.heap.size + 1, 1, none⟩ (.slice a2 (es.length + 1) c2)) (by repeat (first | with_reducible exact Below.refl _ _ | with_reducible refine Below.alloc ?_ (by first | omega | (simp; done) | (simp; omega)) _ | with_reducible refine Below.drew ?_ | with_reducible refine Below.setCell ?_ (by first | (dsimp only; omega) | (simp; omega)) _ ))).len
                    have h2 := HUL.out
                    have h3 := HLT.out
                    omega
                · have HGo : Hid (Gone en O 15 (nextT en us).pos) := Or.inr ⟨rfl, by rw [next_pos, ← HI2.out]; exact doms_lim HC3.out cd⟩
                  clear cd HGE HI2
                  go_wp2_with fail
                  refine (peek_any Z R en us _ (HS4.out.below (by repeat (first | with_reducible exact Below.refl _ _ | with_reducible refine Below.alloc ?_ (by first | omega | (simp; done) | (simp; omega)) _ | with_reducible refine Below.drew ?_ | with_reducible refine Below.setCell ?_ (by first | (dsimp only; omega) | (simp; omega)) _ )))).mono ?_
                  rintro e w7 ⟨rfl, hp7⟩
                  have hb7 := But.of (R := R) hp7
                  unfold tkV
                  go_wp2
                  exact ⟨rfl, (by repeat (first | with_reducible exact But.refl _ _ | with_reducible refine But.alloc ?_ _ | with_reducible refine But.drew ?_ | with_reducible refine But.setCell ?_ (by first | (left; dsimp only; omega) | (left; simp; omega)) _ | with_reducible refine But.trans ?_ (by assumption) | with_reducible refine But.below ?_ (by assumption))), Or.inr ⟨15, _, rfl, HGo.out⟩⟩
              · have k3 : ((es.length : Int) == 3) = false := by rw [beq_eq_false_iff_ne]; omega
                have HG5 : Hid (runC en (P en g) (domC fun e => .call (.doms ds (es ++ [e])) .ret) us = O) := Hid.intro (HGE.out (fun h => c3 h.1))
                clear HGE c3 HI2
                go_wp2_with fail
                clear r0 r1 rf0 rf1 rl
                refine wp_region_held_tail (S := fun w' => Box2 w' (w.heap.size + 1) (.slice a ds.length cap) (.slice b es.length cb)) 6 (by kernel_rfl) (by kernel_rfl) (by repeat (first | with_reducible exact HP.out | with_reducible refine Box2.drew ?_ | with_reducible refine Box2.alloc _ ?_ | with_reducible refine Box2.other (by first | (dsimp only; omega) | (simp; omega)) ?_)) (fun hHeld => ?_)
                simp only [List.take_succ_cons, List.take_zero, List.drop_succ_cons, List.drop_zero]
                refine wpAnyH_take (i := 0) (v := .pointer (some ⟨w.heap.size + 1, 1, none⟩)) rfl (by kernel_rfl) (by kernel_rfl) (by kernel_rfl) (fun _ _ _ h => h) (Or.inl ⟨by rfl, by intro w _; go_simp⟩) hHeld ?_
                refine wpAnyH_take (i := 1) (v := .slice b es.length cb) rfl (by kernel_rfl) (by kernel_rfl) (by kernel_rfl) (fun _ _ _ h => h) (Or.inl ⟨by rfl, by intro w hS; obtain ⟨p0, p1, pf0, pf1⟩ := Box2.cells hS; go_simp⟩) hHeld ?_
                refine wpAnyH_take (i := 2) (v := .pointer (some ⟨R, 0, none⟩)) rfl (by kernel_rfl) (by kernel_rfl) (by kernel_rfl) (fun _ _ _ h => h) (Or.inl ⟨by rfl, by intro w _; go_simp⟩) hHeld ?_
                refine wpAnyH_ready (rs := [3]) (by kernel_rfl) (by simp) ?_
                refine AllReadyH.cons rfl (fun K hK => ?_) AllReadyH.nil
                go_simp
                refine (domain_step (HKS.out g) _ (HS.out.below (by repeat (first | with_reducible exact Below.refl _ _ | with_reducible refine Below.alloc ?_ (by first | omega | (simp; done) | (simp; omega)) _ | with_reducible refine Below.drew ?_ | with_reducible refine Below.setCell ?_ (by first | (dsimp only; omega) | (simp; omega)) _ ))) HO.out HG5.out).mono ?_
                rintro e w8 ⟨hb8, ⟨v8, x8, r8, rfl, hx8, hs, hG, hlt⟩ | ⟨c, p, rfl, hG⟩⟩
                rotate_left
                · exact ⟨rfl, (by repeat (first | with_reducible exact But.refl _ _ | with_reducible refine But.alloc ?_ _ | with_reducible refine But.drew ?_ | with_reducible refine But.setCell ?_ (by first | (left; dsimp only; omega) | (left; simp; omega)) _ | with_reducible refine But.trans ?_ (by assumption) | with_reducible refine But.below ?_ (by assumption))), Or.inr ⟨c, p, rfl, hG⟩⟩
                obtain ⟨nn8, tx8, ox8, a8, ln8, cp8, rfl, htx8⟩ := hx8.form2
                have HX8 := Hid.intro hx8
                have HS8 := Hid.intro hs
                have HQ8 : Hid (P en g (.doms ds (es ++ [x8])) r8 = O) := Hid.intro (by rw [← hG, run_tail])
                have HLT := Hid.intro hlt
                clear hx8 hs htx8 hG hlt HG5
                have l8 := hb8.size
                (try simp at l8)
                have HR8 : Hid (Box2 w8 (w.heap.size) (.slice none 0 0) (.slice none 0 0)) := Hid.intro (Box2.but hb8 (by first | omega | (simp; done) | (simp; omega)) (by repeat (first | with_reducible exact HR.out | with_reducible refine Box2.drew ?_ | with_reducible refine Box2.alloc _ ?_ | with_reducible refine Box2.other (by first | (dsimp only; omega) | (simp; omega)) ?_)))
                have HP8 : Hid (Box2 w8 (w.heap.size + 1) (.slice a ds.length cap) (.slice b es.length cb)) := Hid.intro (Box2.but hb8 (by first | omega | (simp; done) | (simp; omega)) (by repeat (first | with_reducible exact HP.out | with_reducible refine Box2.drew ?_ | with_reducible refine Box2.alloc _ ?_ | with_reducible refine Box2.other (by first | (dsimp only; omega) | (simp; omega)) ?_)))
                have HD8 : Hid (w8.ownsRow (w.heap.size + 1 + 1) 46 4 (.slice a ds.length cap) ds.length (cellsD ds)) := Hid.intro (row_but HD.out.drew hb8 (by first | omega | (simp; done) | (simp; omega)))
                have HE8 := Hid.intro (ExRow.but HE.out.drew hb8 (by first | omega | (simp; done) | (simp; omega)))
                have HRL : Hid (∀ k, Value.ownBlock (.slice b es.length cb) = some k → k < wr.heap.size) := Hid.intro (fun k hk => by obtain ⟨zs, _, hrow, _⟩ := HE.out; exact (hrow.lt k hk).2)
                refine hK.out _ _ (by repeat (first | with_reducible exact HP8.out | with_reducible refine Box2.drew ?_ | with_reducible refine Box2.alloc _ ?_ | with_reducible refine Box2.other (by first | (dsimp only; omega) | (simp; omega)) ?_)) (fun hHeld => ?_)
                clear hK K
                refine wpAnyH_ready (rs := [4]) (by kernel_rfl) (by simp) ?_
                refine AllReadyH.cons rfl (fun K hK => ?_) AllReadyH.nil
                go_simp
                refine hK.out _ _ (by repeat (first | with_reducible exact HP8.out | with_reducible refine Box2.drew ?_ | with_reducible refine Box2.alloc _ ?_ | with_reducible refine Box2.other (by first | (dsimp only; omega) | (simp; omega)) ?_)) (fun hHeld => ?_)
                clear hK K
                obtain ⟨zs, hz1, hrow, hz3⟩ := HE8.out
                obtain ⟨hj0, hy0, hy1, hy2⟩ := HJ0.out
                refine wpAnyH_list (i := 5) (by kernel_rfl) rfl rfl ?_
                refine wpList_append_own_at _ rfl _ _ 23 rfl w1.heap.size 49 j0 _ 6 80 (by kernel_rfl) hj0 hy0 hy1 hy2 rfl (by omega) (.slice b es.length cb) es.length (zs.flatMap comps6) rfl (row_alloc hrow _) ⟨w8.heap.size, 0, none⟩ 1 1 [.int .i64 (x8.kind : Int), .string tx8, .string ox8, .int .i64 nn8, .int .i64 (x8.pl : Int), .slice a8 ln8 cp8] rfl rfl ?qc2 (by intro u hu; simp at hu; rcases hu with rfl | rfl | rfl | rfl | rfl | rfl <;> rfl) (by unfold maxLen; have := HES.out; have := HL15.out; omega) (by have := HES.out; have := HL15.out; omega) (by first | omega | (simp; done) | (simp; omega)) ?_
                case qc2 =>
                  intro z u hz
                  match z with
                  | 0 => rw [Addr.add_lit]; exact cell_new (by simp) hz
                  | 1 => rw [Addr.add_lit]; exact cell_new (by simp) hz
                  | 2 => rw [Addr.add_lit]; exact cell_new (by simp) hz
                  | 3 => rw [Addr.add_lit]; exact cell_new (by simp) hz
                  | 4 => rw [Addr.add_lit]; exact cell_new (by simp) hz
                  | 5 => rw [Addr.add_lit]; exact cell_new (by simp) hz
                  | z + 6 => simp at hz
                intro v9 w9 hown hgrow _ hwho
                have hrb : ∀ k, Value.ownBlock (.slice b es.length cb) = some k → w1.heap.size ≤ k := fun k hk => (hrow.lt k hk).1
                have HP9 : Hid (Box2 w9 (w.heap.size + 1) (.slice a ds.length cap) (.slice b es.length cb)) := Hid.intro (Box2.grown hgrow (fun k hk => by have := hrb k hk; omega) (Box2.alloc _ HP8.out))
                have HR9 : Hid (Box2 w9 (w.heap.size) (.slice none 0 0) (.slice none 0 0)) := Hid.intro (Box2.grown hgrow (fun k hk => by have := hrb k hk; omega) (Box2.alloc _ HR8.out))
                have HX9 : Hid (ExV ((wr).heap.size) (w8.alloc (.cells #[.int .i64 (x8.kind : Int), .string tx8, .string ox8, .int .i64 nn8, .int .i64 (x8.pl : Int), .slice a8 ln8 cp8] 49 (0, 0))) (.agg #[.int .i64 (x8.kind : Int), .string tx8, .string ox8, .int .i64 nn8, .int .i64 (x8.pl : Int), .slice a8 ln8 cp8]) x8) := Hid.intro ((HX8.out.keep (by repeat (first | with_reducible exact Kept.refl _ _ | with_reducible refine Kept.alloc ?_ _ | with_reducible refine Kept.drew ?_ | with_reducible refine Kept.setCell ?_ (by first | (left; dsimp only; omega) | (right; dsimp only; omega) | (left; simp; omega) | (right; simp; omega)) _ | with_reducible refine Kept.but ?_ (by assumption) (by first | omega | (simp; omega)) | with_reducible refine Kept.below ?_ (by assumption)))).low (by first | omega | (simp; done) | (simp; omega)))
                have HE9 : Hid (ExRow w1.heap.size w9 v9 (es ++ [x8])) := Hid.intro (ExRow.app hz1 (fun j x u h1 h2 => (hz3 j x u h1 h2).keep ((KeptQ.refl _ _).alloc _)) HX9.out (by first | omega | (simp; done) | (simp; omega)) HRL.out hown hgrow hwho)
                have HD9 : Hid (w9.ownsRow (w.heap.size + 1 + 1) 46 4 (.slice a ds.length cap) ds.length (cellsD ds)) := Hid.intro ((row_alloc HD8.out _).kept hgrow (by
                  rcases hk : Value.ownBlock (.slice a ds.length cap) with _ | k
                  · first | exact Or.inl rfl | exact Or.inl hk
                  · right; intro e; have h1 := HDL.out k hk; have h2 := hrb k e.symm; omega))
                have HS9 : Hid (St Z R en w9 r8) := Hid.intro (St.grown (HS8.out.below (by repeat (first | with_reducible exact Below.refl _ _ | with_reducible refine Below.alloc ?_ (by first | omega | (simp; done) | (simp; omega)) _ | with_reducible refine Below.drew ?_ | with_reducible refine Below.setCell ?_ (by first | (dsimp only; omega) | (simp; omega)) _ ))) hgrow (fun k hk => by have := hrb k hk; omega))
                have HB9 : Hid (But R w w9) := Hid.intro (But.grown (w := (w8.alloc (.cells #[.int .i64 (x8.kind : Int), .string tx8, .string ox8, .int .i64 nn8, .int .i64 (x8.pl : Int), .slice a8 ln8 cp8] 49 (0, 0)))) (by repeat (first | with_reducible exact But.refl _ _ | with_reducible refine But.alloc ?_ _ | with_reducible refine But.drew ?_ | with_reducible refine But.setCell ?_ (by first | (left; dsimp only; omega) | (left; simp; omega)) _ | with_reducible refine But.trans ?_ (by assumption) | with_reducible refine But.below ?_ (by assumption))) hgrow (fun k hk => by have := hrb k hk; omega))
                have lm9 : w8.heap.size < w9.heap.size := by have := hgrow.size; simp at this; omega
                show _ ∧ _
                refine ⟨HP9.out, ?_⟩
                refine wpAnyH_done (by kernel_rfl) ?_ _
                show wpList _ _ _ _ _ _
                obtain ⟨a2, c2, rfl⟩ := row_form hown
                clear hown hgrow hwho hrow hz3 hz1
                obtain ⟨q0, q1, qf0, qf1⟩ := HP9.out.cells
                have lq := HP9.out.lt
                have el : Hid ((es ++ [x8]).length = es.length + 1) := Hid.intro (by simp)
                go_wp2_with fail
                go_roundw
                case rel =>
                  exact ⟨g, es ++ [x8], r8, a2, c2, by have := HES.out; have := HLT.out; have := el.out; omega, Hid.intro (Box2.other (by first | omega | (simp; done) | (simp; omega)) HR9.out), Hid.intro (by rw [el.out]; exact Box2.set1 HP9.out), Hid.intro (ownsRow_setCell_below HD9.out (by first | omega | (simp; done) | (simp; omega)) _), Hid.intro (by rw [el.out]; exact HE9.out.set (by first | omega | (simp; done) | (simp; omega)) _), Hid.intro (HS9.out.below (by repeat (first | with_reducible exact Below.refl _ _ | with_reducible refine Below.alloc ?_ (by first | omega | (simp; done) | (simp; omega)) _ | with_reducible refine Below.drew ?_ | with_reducible refine Below.setCell ?_ (by first | (dsimp only; omega) | (simp; omega)) _ ))), Hid.intro (But.setCell HB9.out (by first | (left; dsimp only; omega) | (right; dsimp only; omega) | (left; simp; omega) | (right; simp; omega)) _), (by simp; omega), HQ8⟩
                case measure =>
                  have h1 := (HS9.out.below (w' := w9.setCell ⟨w.heap.size + 1, 1, none⟩ (.slice a2 (es.length + 1) c2)) (by repeat (first | with_reducible exact Below.refl _ _ | with_reducible refine Below.alloc ?_ (by first | omega | (simp; done) | (simp; omega)) _ | with_reducible refine Below.drew ?_ | with_reducible refine Below.setCell ?_ (by first | (dsimp only; omega) | (simp; omega)) _ ))).len
                  have h2 := HUL.out
                  have h3 := HLT.out
                  omega
      · obtain ⟨p0, p1, pf0, pf1⟩ := HP1.out.cells
        by_cases c8 : ds.length = 8
        · have k8 : ((ds.length : Int) == 8) = true := by rw [c8]; rfl
          have HGo : Hid (Gone en O 15 (nextT en us).pos) := Or.inr ⟨rfl, by rw [next_pos, ← HI2.out]; exact decls_lim cD c8⟩
          clear c8 cD HI2
          go_wp2_with fail
          refine (peek_any Z R en us _ (HS1.out.below (by repeat (first | with_reducible exact Below.refl _ _ | with_reducible refine Below.alloc ?_ (by first | omega | (simp; done) | (simp; omega)) _ | with_reducible refine Below.drew ?_ | with_reducible refine Below.setCell ?_ (by first | (dsimp only; omega) | (simp; omega)) _ )))).mono ?_
          rintro e w10 ⟨rfl, hp10⟩
          have hb10 := But.of (R := R) hp10
          unfold tkV
          go_wp2
          exact ⟨rfl, (by repeat (first | with_reducible exact But.refl _ _ | with_reducible refine But.alloc ?_ _ | with_reducible refine But.drew ?_ | with_reducible refine But.setCell ?_ (by first | (left; dsimp only; omega) | (left; simp; omega)) _ | with_reducible refine But.trans ?_ (by assumption) | with_reducible refine But.below ?_ (by assumption))), Or.inr ⟨15, _, rfl, HGo.out⟩⟩
        have k8 : ((ds.length : Int) == 8) = false := by rw [beq_eq_false_iff_ne]; omega
        have HG4 : Hid (runC en (P en g) (declC (fun d : Ex => if 16 < locs + sizeE d then Cmd.lim d.pl else Cmd.call (.decls (locs + sizeE d) (ds ++ [d])) .ret)) us = O) := Hid.intro ((decls_go cD c8).symm.trans HI2.out)
        obtain ⟨t0, ut, rfl⟩ : ∃ t r, us = t :: r := by
          cases us with
          | nil => cases cD
          | cons t r => exact ⟨t, r, rfl⟩
        have HTH : Hid (thenO en g (fun d : Ex => if 16 < locs + sizeE d then Cmd.lim d.pl else Cmd.call (.decls (locs + sizeE d) (ds ++ [d])) .ret) (runC en (P en g) (declC .ret) (t0 :: ut)) = O) := Hid.intro (decl_then.symm.trans HG4.out)
        have HC8 := Hid.intro c8
        have HUL := Hid.intro HS.out.len
        clear HI2 HG4 cD c8
        go_wp2_with fail
        refine (decl_step (f := g) (k := .ret) _ (HS1.out.below (by repeat (first | with_reducible exact Below.refl _ _ | with_reducible refine Below.alloc ?_ (by first | omega | (simp; done) | (simp; omega)) _ | with_reducible refine Below.drew ?_ | with_reducible refine Below.setCell ?_ (by first | (dsimp only; omega) | (simp; omega)) _ ))) rfl).mono ?_
        rintro e w11 ⟨hb11, ⟨d, r, rfl, hs, h3, hG⟩ | ⟨c, p, rfl, hG⟩⟩
        rotate_left
        · exact ⟨rfl, (by repeat (first | with_reducible exact But.refl _ _ | with_reducible refine But.alloc ?_ _ | with_reducible refine But.drew ?_ | with_reducible refine But.setCell ?_ (by first | (left; dsimp only; omega) | (left; simp; omega)) _ | with_reducible refine But.trans ?_ (by assumption) | with_reducible refine But.below ?_ (by assumption))), Or.inr ⟨c, p, rfl, gone_then2 HTH.out hG⟩⟩
        have hX : runC en (P en g) (declC .ret) (t0 :: ut) = .ok d r := hG.symm
        have HLT := Hid.intro (decl_eat hX)
        have HQ : Hid (runC en (P en g) ((fun d : Ex => if 16 < locs + sizeE d then Cmd.lim d.pl else Cmd.call (.decls (locs + sizeE d) (ds ++ [d])) .ret) d) r = O) := Hid.intro (by have h := HTH.out; rw [hX] at h; exact h)
        have hsz : (sizeE d : Int) ≤ 8 := by
          unfold sizeE
          split
          · rename_i h; have := h3 h; omega
          · omega
        have hlc : (locs : Int) ≤ 16 := by omega
        have H3 := Hid.intro h3
        have HS11 := Hid.intro hs
        clear hX hG HTH h3 hs p0 p1 pf0 pf1
        have l11 := hb11.size
        (try simp at l11)
        have HR11 : Hid (Box2 w11 (w.heap.size) (.slice none 0 0) (.slice none 0 0)) := Hid.intro (Box2.but hb11 (by first | omega | (simp; done) | (simp; omega)) (by repeat (first | with_reducible exact HR1.out | with_reducible refine Box2.drew ?_ | with_reducible refine Box2.alloc _ ?_ | with_reducible refine Box2.other (by first | (dsimp only; omega) | (simp; omega)) ?_)))
        have HP11 : Hid (Box2 w11 (w.heap.size + 1) (.slice a ds.length cap) (.slice none 0 0)) := Hid.intro (Box2.but hb11 (by first | omega | (simp; done) | (simp; omega)) (by repeat (first | with_reducible exact HP1.out | with_reducible refine Box2.drew ?_ | with_reducible refine Box2.alloc _ ?_ | with_reducible refine Box2.other (by first | (dsimp only; omega) | (simp; omega)) ?_)))
        have HD11 : Hid (w11.ownsRow (w.heap.size + 1 + 1) 46 4 (.slice a ds.length cap) ds.length (cellsD ds)) := Hid.intro (row_but HD1.out hb11 (by first | omega | (simp; done) | (simp; omega)))
        unfold dcV
        go_wp2_with fail
        refine (size_any d _ (fun h => by have := H3.out h; omega)).mono ?_
        rintro e w12 ⟨rfl, hp12⟩
        have hb12 := But.of (R := R) hp12
        have l12 := hb12.size
        (try simp at l12)
        have HR12 : Hid (Box2 w12 (w.heap.size) (.slice none 0 0) (.slice none 0 0)) := Hid.intro (Box2.but hb12 (by first | omega | (simp; done) | (simp; omega)) (by repeat (first | with_reducible exact HR11.out | with_reducible refine Box2.drew ?_ | with_reducible refine Box2.alloc _ ?_ | with_reducible refine Box2.other (by first | (dsimp only; omega) | (simp; omega)) ?_)))
        have HP12 : Hid (Box2 w12 (w.heap.size + 1) (.slice a ds.length cap) (.slice none 0 0)) := Hid.intro (Box2.but hb12 (by first | omega | (simp; done) | (simp; omega)) (by repeat (first | with_reducible exact HP11.out | with_reducible refine Box2.drew ?_ | with_reducible refine Box2.alloc _ ?_ | with_reducible refine Box2.other (by first | (dsimp only; omega) | (simp; omega)) ?_)))
        have HS12 : Hid (St Z R en w12 r) := Hid.intro (St.to (HS11.out.below (by repeat (first | with_reducible exact Below.refl _ _ | with_reducible refine Below.alloc ?_ (by first | omega | (simp; done) | (simp; omega)) _ | with_reducible refine Below.drew ?_ | with_reducible refine Below.setCell ?_ (by first | (dsimp only; omega) | (simp; omega)) _ ))) hp12)
        have HXD : Hid (BoxD w12 (w11.heap.size) (.int .i64 (d.kind : Int)) (.string ⟨d.text.toArray⟩) (.int .i64 d.n) (.int .i64 (d.pl : Int))) := Hid.intro (BoxD.but hb12 (by first | omega | (simp; done) | (simp; omega)) (BoxD.new rfl))
        have HD12 : Hid (w12.ownsRow (w.heap.size + 1 + 1) 46 4 (.slice a ds.length cap) ds.length (cellsD ds)) := Hid.intro (row_but (by repeat (first | with_reducible exact HD11.out | with_reducible refine row_alloc ?_ _ | with_reducible refine ownsRow_setCell_below ?_ (by first | omega | (simp; done) | (simp; omega)) _ | with_reducible refine row_set ?_ (by first | omega | (simp; done) | (simp; omega)) _)) hb12 (by first | omega | (simp; done) | (simp; omega)))
        clear hp12
        obtain ⟨d0, d1, d2, d3⟩ := HXD.out.cells
        have ld := HXD.out.lt
        by_cases c16 : 16 < locs + sizeE d
        · have k16 : (16 : Int) < (locs : Int) + (sizeE d : Int) := by omega
          have HGo : Hid (Gone en O 15 d.pl) := Or.inr ⟨rfl, by rw [← HQ.out]; show runC _ _ (if _ then _ else _) _ = _; rw [if_pos c16]; rfl⟩
          clear c16 HQ
          go_wp2
          exact ⟨rfl, (by repeat (first | with_reducible exact But.refl _ _ | with_reducible refine But.alloc ?_ _ | with_reducible refine But.drew ?_ | with_reducible refine But.setCell ?_ (by first | (left; dsimp only; omega) | (left; simp; omega)) _ | with_reducible refine But.trans ?_ (by assumption) | with_reducible refine But.below ?_ (by assumption))), Or.inr ⟨15, _, rfl, HGo.out⟩⟩
        have k16 : ¬ (16 : Int) < (locs : Int) + (sizeE d : Int) := by omega
        have HQ2 : Hid (P en g (.decls (locs + sizeE d) (ds ++ [d])) r = O) := Hid.intro (by rw [← HQ.out]; show _ = runC _ _ (if _ then _ else _) _; rw [if_neg c16, run_tail])
        clear c16 HQ
        obtain ⟨p0, p1, pf0, pf1⟩ := HP12.out.cells
        obtain ⟨hi0, hz0, hz1, hz2⟩ := HI0.out
        go_wp2_with (at_builtin; refine wpList_append_own_at _ rfl _ _ 22 rfl (w.heap.size + 1 + 1) 46 i0 _ 4 40 (by kernel_rfl) hi0 hz0 hz1 hz2 rfl (by omega) (.slice a ds.length cap) ds.length (cellsD ds) rfl (row_alloc HD12.out _) ⟨w12.heap.size, 0, none⟩ 1 1 (encD d) rfl rfl ?qd2 ?qd3 ?qd4 ?qd5 ?qd6 ?_)
        case qd2 =>
          intro z u hz
          match z with
          | 0 => rw [Addr.add_lit]; exact cell_new (by simp) hz
          | 1 => rw [Addr.add_lit]; exact cell_new (by simp) hz
          | 2 => rw [Addr.add_lit]; exact cell_new (by simp) hz
          | 3 => rw [Addr.add_lit]; exact cell_new (by simp) hz
          | z + 4 => simp [encD] at hz
        case qd3 => intro u hu; simp [encD] at hu; rcases hu with rfl | rfl | rfl | rfl <;> rfl
        case qd4 => unfold maxLen; have := H8.out; omega
        case qd5 => have := H8.out; omega
        case qd6 => first | omega | (simp; omega)
        intro v13 w13 hown hgrow _ hwho
        have hrb : ∀ k, Value.ownBlock (.slice a ds.length cap) = some k → (w.heap.size + 1 + 1) ≤ k := fun k hk => (HD12.out.lt k hk).1
        have HP13 : Hid (Box2 w13 (w.heap.size + 1) (.slice a ds.length cap) (.slice none 0 0)) := Hid.intro (Box2.grown hgrow (fun k hk => by have := hrb k hk; omega) (Box2.alloc _ HP12.out))
        have HR13 : Hid (Box2 w13 (w.heap.size) (.slice none 0 0) (.slice none 0 0)) := Hid.intro (Box2.grown hgrow (fun k hk => by have := hrb k hk; omega) (Box2.alloc _ HR12.out))
        have HS13 : Hid (St Z R en w13 r) := Hid.intro (St.grown (HS12.out.below (by repeat (first | with_reducible exact Below.refl _ _ | with_reducible refine Below.alloc ?_ (by first | omega | (simp; done) | (simp; omega)) _ | with_reducible refine Below.drew ?_ | with_reducible refine Below.setCell ?_ (by first | (dsimp only; omega) | (simp; omega)) _ ))) hgrow (fun k hk => by have := hrb k hk; omega))
        have HB13 : Hid (But R w w13) := Hid.intro (But.grown (But.alloc (by repeat (first | with_reducible exact But.refl _ _ | with_reducible refine But.alloc ?_ _ | with_reducible refine But.drew ?_ | with_reducible refine But.setCell ?_ (by first | (left; dsimp only; omega) | (left; simp; omega)) _ | with_reducible refine But.trans ?_ (by assumption) | with_reducible refine But.below ?_ (by assumption))) _) hgrow (fun k hk => by have := hrb k hk; omega))
        obtain ⟨a2, c2, rfl⟩ := row_form hown
        have HN := Hid.intro hown
        clear hown hgrow hwho p0 p1 pf0 pf1
        obtain ⟨q0, q1, qf0, qf1⟩ := HP13.out.cells
        have lq := HP13.out.lt
        have el : Hid ((ds ++ [d]).length = ds.length + 1) := Hid.intro (by simp)
        go_wp2_with fail
        go_roundw
        case rel =>
          exact ⟨locs + sizeE d, g, ds ++ [d], r, a2, c2, by first | rfl | (rw [Int.natCast_add]), by omega, by have := H8.out; have := HC8.out; have := el.out; omega, by have := HUS.out; have := HLT.out; omega, Hid.intro (Box2.other (by first | omega | (simp; done) | (simp; omega)) HR13.out), Hid.intro (by rw [el.out]; exact Box2.set0 HP13.out), Hid.intro (by rw [el.out, cellsD_add]; exact ownsRow_setCell_below HN.out (by first | omega | (simp; done) | (simp; omega)) _), Hid.intro (HS13.out.below (by repeat (first | with_reducible exact Below.refl _ _ | with_reducible refine Below.alloc ?_ (by first | omega | (simp; done) | (simp; omega)) _ | with_reducible refine Below.drew ?_ | with_reducible refine Below.setCell ?_ (by first | (dsimp only; omega) | (simp; omega)) _ ))), Hid.intro (But.setCell HB13.out (by first | (left; dsimp only; omega) | (right; dsimp only; omega) | (left; simp; omega) | (right; simp; omega)) _), HQ2⟩
        case measure =>
          have h1 := (HS13.out.below (w' := w13.setCell ⟨w.heap.size + 1, 0, none⟩ (.slice a2 (ds.length + 1) c2)) (by repeat (first | with_reducible exact Below.refl _ _ | with_reducible refine Below.alloc ?_ (by first | omega | (simp; done) | (simp; omega)) _ | with_reducible refine Below.drew ?_ | with_reducible refine Below.setCell ?_ (by first | (dsimp only; omega) | (simp; omega)) _ ))).len
          have h2 := HUL.out
          have h3 := HLT.out
          omega
end Go.Proofs.YtkljakeccfnakaaGreatDoor

namespace Go.Proofs.YtkljakeccfnakaaGreatDoor
open Go.RowKit

theorem parseC_holds : ParseC := parseC_of lexC_holds (fun f => program_reads f (fun Z R en g => seq_all Z R en g))
end Go.Proofs.YtkljakeccfnakaaGreatDoor
