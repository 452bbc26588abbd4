/-
  The walk of an arm of options.
-/
import Derived.Test.YtkljakeccfnakaaGreatDoorHabc
namespace Go.Proofs.YtkljakeccfnakaaGreatDoor
open Go.RowKit

/-- All but R, M and K is as it was. -/
structure But3 (R M K : Nat) (w w' : World) : Prop where
  os : w'.os = w.os
  tape : w'.tape = w.tape
  output : w'.output = w.output
  size : w.heap.size ≤ w'.heap.size
  block : ∀ k, k < w.heap.size → k ≠ R → k ≠ M → k ≠ K → w'.heap[k]? = w.heap[k]?
theorem But3.refl (R M K : Nat) (w : World) : But3 R M K w w := ⟨rfl, rfl, rfl, Nat.le_refl _, fun _ _ _ _ _ => rfl⟩
theorem But3.trans {R M K : Nat} {a b c : World} (h : But3 R M K a b) (k : But R b c) : But3 R M K a c :=
  ⟨k.os.trans h.os, k.tape.trans h.tape, k.output.trans h.output, Nat.le_trans h.size k.size, fun i hi hr hm hk => (k.block i (Nat.lt_of_lt_of_le hi h.size) hr).trans (h.block i hi hr hm hk)⟩
theorem But3.setCell {R M K : Nat} {a b : World} (h : But3 R M K a b) {p : Addr} (hp : p.block = M ∨ p.block = K) (u : Value) : But3 R M K a (b.setCell p u) := by
  refine ⟨h.os, h.tape, h.output, Nat.le_trans h.size (by simp), fun i hi hr hm hk => (Below.heap_setCell _ _ _ _ ?_).trans (h.block i hi hr hm hk)⟩
  omega
theorem But3.drew {R M K : Nat} {a b : World} (h : But3 R M K a b) : But3 R M K a b.drew := ⟨h.os, h.tape, h.output, h.size, h.block⟩
/-- A match of options under way: the match at M, its kids at K. -/
structure MB (w : World) (M K : Nat) (tx : ByteArray) (nb : Int) (p : Nat) (y : Nat → Value) : Prop where
  m : w.heap[M]? = some (.cells #[.int .i64 24, .string tx, .string ⟨#[]⟩, .int .i64 nb, .int .i64 (p : Int), .slice (some ⟨K, 0, none⟩) 3 3] 49 (0, 0))
  k : ∃ arr : Array Value, w.heap[K]? = some (.cells arr 49 (0, 0)) ∧ arr.size = 18 ∧ ∀ i, i < 18 → arr[i]? = some (y i)
/-- The kid from o on is v. -/
def laidKid (y : Nat → Value) (o : Nat) (v : Value) : Nat → Value := fun i => if o ≤ i ∧ i < o + 6 then comp v (i - o) else y i
theorem MB.same {w w' : World} {M K : Nat} {tx : ByteArray} {nb : Int} {p : Nat} {y : Nat → Value} (h : MB w M K tx nb p y) (hm : w'.heap[M]? = w.heap[M]?) (hk : w'.heap[K]? = w.heap[K]?) : MB w' M K tx nb p y :=
  ⟨hm.trans h.m, h.k.elim fun arr e => ⟨arr, hk.trans e.1, e.2⟩⟩
theorem MB.but {w w' : World} {R M K : Nat} {tx : ByteArray} {nb : Int} {p : Nat} {y : Nat → Value} (h : MB w M K tx nb p y) (hb : But R w w') (hm : M ≠ R) (hk : K ≠ R) : MB w' M K tx nb p y :=
  h.same (hb.block M (lt_of_block h.m) hm) (h.k.elim fun _ e => hb.block K (lt_of_block e.1) hk)
theorem MB.cells {w : World} {M K : Nat} {tx : ByteArray} {nb : Int} {p : Nat} {y : Nat → Value} (h : MB w M K tx nb p y) :
    (w.cell? ⟨M, 0, none⟩ = some (.int .i64 24) ∧ w.cell? ⟨M, 1, none⟩ = some (.string tx) ∧ w.cell? ⟨M, 2, none⟩ = some (.string ⟨#[]⟩) ∧ w.cell? ⟨M, 3, none⟩ = some (.int .i64 nb) ∧ w.cell? ⟨M, 4, none⟩ = some (.int .i64 (p : Int)) ∧ w.cell? ⟨M, 5, none⟩ = some (.slice (some ⟨K, 0, none⟩) 3 3)) ∧ (∀ o, w.frozen? ⟨M, o, none⟩ = false) ∧ M < w.heap.size := by
  have e := h.m
  refine ⟨⟨?_, ?_, ?_, ?_, ?_, ?_⟩, fun o => ?_, lt_of_block e⟩
  · simp [World.cell?, e]
  · simp [World.cell?, e]
  · simp [World.cell?, e]
  · simp [World.cell?, e]
  · simp [World.cell?, e]
  · simp [World.cell?, e]
  · simp [World.frozen?, e]
theorem MB.kids {w : World} {M K : Nat} {tx : ByteArray} {nb : Int} {p : Nat} {y : Nat → Value} (h : MB w M K tx nb p y) :
    (∀ i, i < 18 → w.cell? ⟨K, i, none⟩ = some (y i)) ∧ (∀ o, w.frozen? ⟨K, o, none⟩ = false) ∧ K < w.heap.size := by
  obtain ⟨arr, e, hs, hy⟩ := h.k
  refine ⟨fun i hi => ?_, fun o => ?_, lt_of_block e⟩
  · have := hy i hi; simp [World.cell?, e, this]
  · simp [World.frozen?, e]
theorem MB.num {w : World} {M K : Nat} {tx : ByteArray} {nb : Int} {p : Nat} {y : Nat → Value} (h : MB w M K tx nb p y) (hne : M ≠ K) (nb' : Int) : MB (w.setCell ⟨M, 3, none⟩ (.int .i64 nb')) M K tx nb' p y := by
  refine ⟨?_, h.k.elim fun arr e => ⟨arr, (Below.heap_setCell _ _ _ _ (fun q => hne q.symm)).trans e.1, e.2⟩⟩
  rw [heap_setCell_same w M 3 _ 49 _ h.m]
  rfl
theorem MB.name {w : World} {M K : Nat} {tx : ByteArray} {nb : Int} {p : Nat} {y : Nat → Value} (h : MB w M K tx nb p y) (hne : M ≠ K) (tx' : ByteArray) : MB (w.setCell ⟨M, 1, none⟩ (.string tx')) M K tx' nb p y := by
  refine ⟨?_, h.k.elim fun arr e => ⟨arr, (Below.heap_setCell _ _ _ _ (fun q => hne q.symm)).trans e.1, e.2⟩⟩
  rw [heap_setCell_same w M 1 _ 49 _ h.m]
  rfl
theorem MB.cell {w : World} {M K : Nat} {tx : ByteArray} {nb : Int} {p : Nat} {y : Nat → Value} (h : MB w M K tx nb p y) (hne : M ≠ K) (i : Nat) (v : Value) : MB (w.setCell ⟨K, i, none⟩ v) M K tx nb p (fun j => if j = i then v else y j) := by
  refine ⟨(Below.heap_setCell _ _ _ _ hne).trans h.m, ?_⟩
  obtain ⟨arr, e, hs, hy⟩ := h.k
  refine ⟨arr.setIfInBounds i v, ?_, by simp [hs], fun j hj => ?_⟩
  · rw [heap_setCell_same w K i _ 49 _ e]
  · by_cases c : j = i
    · subst c; simp [hs, hj]
    · rw [if_neg c]
      rw [Array.getElem?_setIfInBounds_ne (fun q => c q.symm)]; exact hy j hj
theorem MB.kid {w : World} {M K : Nat} {tx : ByteArray} {nb : Int} {p : Nat} {y : Nat → Value} (h : MB w M K tx nb p y) (hne : M ≠ K) (o : Nat) (a b c d e f : Value) :
    MB ((((((w.setCell ⟨K, o, none⟩ a).setCell ⟨K, o + 1, none⟩ b).setCell ⟨K, o + 2, none⟩ c).setCell ⟨K, o + 3, none⟩ d).setCell ⟨K, o + 4, none⟩ e).setCell ⟨K, o + 5, none⟩ f) M K tx nb p (laidKid y o (.agg #[a, b, c, d, e, f])) := by
  have h6 := (((((h.cell hne o a).cell hne (o + 1) b).cell hne (o + 2) c).cell hne (o + 3) d).cell hne (o + 4) e).cell hne (o + 5) f
  refine ⟨h6.m, h6.k.elim fun arr q => ⟨arr, q.1, q.2.1, fun i hi => (q.2.2 i hi).trans ?_⟩⟩
  congr 1
  unfold laidKid
  by_cases g : o ≤ i ∧ i < o + 6
  · rw [if_pos g]
    obtain ⟨j, rfl⟩ : ∃ j, i = o + j := ⟨i - o, by omega⟩
    have hj : j < 6 := by omega
    rw [show o + j - o = j by omega]
    match j, hj with
    | 0, _ => simp [comp]
    | 1, _ => simp [comp]
    | 2, _ => simp [comp]
    | 3, _ => simp [comp]
    | 4, _ => simp [comp]
    | 5, _ => simp [comp]
  · rw [if_neg g, if_neg (by omega), if_neg (by omega), if_neg (by omega), if_neg (by omega), if_neg (by omega), if_neg (by omega)]
/-- An arm of options that is not there yet. -/
def armC (nb : Nat) (kn : Ex → Cmd) (ks : List UInt8 → Ex → Cmd) : Cmd :=
  if nb = 1 then mayC [115, 111, 109, 101] (someArm ks) .stop else mayC [110, 111, 110, 101] (noneArm kn) (if nb = 2 then .stop else mayC [115, 111, 109, 101] (someArm ks) .stop)
/-- How the reader of an arm ends. -/
def ArmEnd (Z R en f M K p : Nat) (tx : ByteArray) (nb : Nat) (y : Nat → Value) (kn : Ex → Cmd) (ks : List UInt8 → Ex → Cmd) (w : World) (O : Out) (e : Ending) (w' : World) : Prop :=
  But3 R M K w w' ∧ ((e = .returned (.tuple #[]) ∧ ∃ r v x, St Z R en w' r ∧ ExV w.heap.size w' v x ∧
    ((MB w' M K tx (nb + 1) p (laidKid y 6 v) ∧ runC en (P en f) (kn x) r = O ∧ nb ≠ 1) ∨ (∃ t : List UInt8, MB w' M K ⟨t.toArray⟩ (nb + 2) p (laidKid y 12 v) ∧ runC en (P en f) (ks t x) r = O ∧ nb ≠ 2))) ∨
    (∃ c p : Nat, e = .panicked [{ v := .iface 73 (.agg #[.int .i64 c, .int .i64 p]), recovered := false }] ∧ Gone en O c p))

set_option maxHeartbeats 8000000 in
theorem arm0 {Z R en f : Nat} (KE : Reads Z R en f 130 .expr) {M K p0 : Nat} {tx : ByteArray} {y : Nat → Value} {kn : Ex → Cmd} {ks : List UInt8 → Ex → Cmd} {ts : List Tok} {O : Out} {w : World} (hw : St Z R en w ts) (hM : Z ≤ M) (hK : Z ≤ K) (hne : M ≠ K) (hm : MB w M K tx 0 p0 y) (hO : O ≠ .out) (hg : runC en (P en f) (armC 0 kn ks) ts = O) : Calls Tryz.prog 177 #[.pointer (some ⟨R, 0, none⟩), .pointer (some ⟨M, 0, none⟩)] w (ArmEnd Z R en f M K p0 tx 0 y kn ks w O) := by
  have lz : Z ≤ w.heap.size := hw.size
  have lr : R < Z := hw.rz
  have HO := Hid.intro hO
  have HW := Hid.intro hw
  have HM0 := Hid.intro hm
  have HKE := Hid.intro KE
  have HG0 : Hid (runC en (P en f) (armC 0 kn ks) ts = O) := Hid.intro hg
  clear KE hw hO hg hm
  have F1 := fld1
  have b01 : bits BinOp.and IntKind.i64 0 1 = 0 := by decide
  have b02 : bits BinOp.and IntKind.i64 0 2 = 0 := by decide
  have b11 : bits BinOp.and IntKind.i64 1 1 = 1 := by decide
  have b12 : bits BinOp.and IntKind.i64 1 2 = 0 := by decide
  have b21 : bits BinOp.and IntKind.i64 2 1 = 0 := by decide
  have b22 : bits BinOp.and IntKind.i64 2 2 = 2 := by decide
  have o01 : bits BinOp.or IntKind.i64 0 1 = 1 := by decide
  have o02 : bits BinOp.or IntKind.i64 0 2 = 2 := by decide
  have o12 : bits BinOp.or IntKind.i64 1 2 = 3 := by decide
  have o21 : bits BinOp.or IntKind.i64 2 1 = 3 := by decide
  obtain ⟨⟨c0, c1, c2, c3, c4, c5⟩, cf, cl⟩ := HM0.out.cells
  obtain ⟨ck, cg, cn⟩ := HM0.out.kids
  have cf0 := cf 0
  have cf1 := cf 1
  have cf2 := cf 2
  have cf3 := cf 3
  have cf4 := cf 4
  have cf5 := cf 5
  clear ck cf cg
  unfold armC at HG0
  rw [if_neg (by decide), if_neg (by decide)] at HG0
  go_enter Tryz.func177, Tryz.ntmps177
  go_wp2_with fail
  refine (may_step ⟨#[110, 111, 110, 101]⟩ (by decide) _ (HW.out.below (by repeat (first | with_reducible exact Below.refl _ _ | with_reducible refine Below.alloc ?_ (by first | omega | (simp; done) | (simp; omega)) _ | with_reducible refine Below.drew ?_ | with_reducible refine Below.setCell ?_ (by first | (dsimp only; omega) | (simp; omega)) _ ))) HG0.out).mono ?_
  rintro e w1 ⟨hb1, ⟨rfl, r1, hs, hG⟩ | ⟨rfl, hs, hG⟩⟩
  · have l1 := hb1.size
    (try simp at l1)
    have HM1 := Hid.intro (MB.but (HM0.out) hb1 (by omega) (by omega))
    have HG1 := Hid.intro hG
    have HS1 := Hid.intro hs
    clear hG hs
    clear c0 cf0 c1 cf1 c2 cf2 c3 cf3 c4 cf4 c5 cf5
    obtain ⟨⟨d0, d1, d2, d3, d4, d5⟩, df, dl⟩ := HM1.out.cells
    obtain ⟨dk, dg, dn⟩ := HM1.out.kids
    have df0 := df 0
    have df1 := df 1
    have df2 := df 2
    have df3 := df 3
    have df4 := df 4
    have df5 := df 5
    clear dk df dg
    go_wp2_with fail
    refine (must_step ⟨#[45, 62]⟩ (by decide) _ (HS1.out.below (by repeat (first | with_reducible exact Below.refl _ _ | with_reducible refine Below.alloc ?_ (by first | omega | (simp; done) | (simp; omega)) _ | with_reducible refine Below.drew ?_ | with_reducible refine Below.setCell ?_ (by first | (dsimp only; omega) | (simp; omega)) _ ))) HG1.out).mono ?_
    rintro e w2 ⟨hb2, ⟨t2, r2, rfl, hs, hG⟩ | ⟨c, p, rfl, hG⟩⟩
    rotate_left
    · exact ⟨rfl, (by repeat (first | with_reducible exact But3.refl _ _ _ _ | with_reducible refine But3.drew ?_ | with_reducible refine But3.setCell ?_ (by first | (left; rfl) | (right; rfl)) _ | with_reducible refine But3.trans ?_ (by assumption))), Or.inr ⟨c, p, rfl, hG⟩⟩
    have l2 := hb2.size
    (try simp at l2)
    have HM2 := Hid.intro (MB.but (HM1.out.num hne 1) hb2 (by omega) (by omega))
    have HG2 := Hid.intro hG
    have HS2 := Hid.intro hs
    clear hG hs
    clear d0 df0 d1 df1 d2 df2 d3 df3 d4 df4 d5 df5
    obtain ⟨⟨g0, g1, g2, g3, g4, g5⟩, gf, gl⟩ := HM2.out.cells
    obtain ⟨gk, gg, gn⟩ := HM2.out.kids
    have gf0 := gf 0
    have gf1 := gf 1
    have gf2 := gf 2
    have gf3 := gf 3
    have gf4 := gf 4
    have gf5 := gf 5
    have gk0 := gk 6 (by omega)
    have gg0 := gg 6
    have gk1 := gk 7 (by omega)
    have gg1 := gg 7
    have gk2 := gk 8 (by omega)
    have gg2 := gg 8
    have gk3 := gk 9 (by omega)
    have gg3 := gg 9
    have gk4 := gk 10 (by omega)
    have gg4 := gg 10
    have gk5 := gk 11 (by omega)
    have gg5 := gg 11
    clear gk gf gg
    go_wp2_with fail
    have dd0 : M ≠ K := hne
    have dd1 : K ≠ M := fun q => hne q.symm
    go_region_held (fun w' => w'.cell? ⟨M, 5, none⟩ = some (.slice (some ⟨K, 0, none⟩) 3 3)) (go_keep)
      (first | (go_at_call 130; refine (HKE.out _ _ _ _ (HS2.out.below (by repeat (first | with_reducible exact Below.refl _ _ | with_reducible refine Below.alloc ?_ (by first | omega | (simp; done) | (simp; omega)) _ | with_reducible refine Below.drew ?_ | with_reducible refine Below.setCell ?_ (by first | (dsimp only; omega) | (simp; omega)) _ ))) HO.out HG2.out).mono ?_; rintro e w3 ⟨hb3, ⟨v3, x3, r3, rfl, hx3, hs, hG⟩ | ⟨c, p, rfl, hG⟩⟩; rotate_left; (exact ⟨rfl, (by repeat (first | with_reducible exact But3.refl _ _ _ _ | with_reducible refine But3.drew ?_ | with_reducible refine But3.setCell ?_ (by first | (left; rfl) | (right; rfl)) _ | with_reducible refine But3.trans ?_ (by assumption))), Or.inr ⟨c, p, rfl, hG⟩⟩); obtain ⟨nn3, tx3, ox3, a3, ln3, cp3, rfl, htx3⟩ := hx3.form2; have HX3 := Hid.intro hx3; clear hx3 htx3; have l3 := hb3.size; (try simp at l3); have HM3 := Hid.intro (MB.but (HM2.out.same (w' := World.drew _) rfl rfl) hb3 (by omega) (by omega)); have HG3 := Hid.intro hG; have HS3 := Hid.intro hs; clear hG hs; obtain ⟨⟨h0, h1, h2, h3, h4, h5⟩, hf, hl⟩ := HM3.out.cells; obtain ⟨hk, hg, hn⟩ := HM3.out.kids; have hk0 := hk 6 (by omega); have hk1 := hk 7 (by omega); have hk2 := hk 8 (by omega); have hk3 := hk 9 (by omega); have hk4 := hk 10 (by omega); have hk5 := hk 11 (by omega); have hg0 := hg 6; have hg1 := hg 7; have hg2 := hg 8; have hg3 := hg 9; have hg4 := hg 10; have hg5 := hg 11; clear hk hf))
    (try simp only [Exit.then])
    (try go_wp2_with fail)
    refine ⟨rfl, .tuple #[], results_none rfl _ _ _, (by repeat (first | with_reducible exact But3.refl _ _ _ _ | with_reducible refine But3.drew ?_ | with_reducible refine But3.setCell ?_ (by first | (left; rfl) | (right; rfl)) _ | with_reducible refine But3.trans ?_ (by assumption))), Or.inl ⟨rfl, _, .agg #[.int .i64 (x3.kind : Int), .string tx3, .string ox3, .int .i64 nn3, .int .i64 (x3.pl : Int), .slice a3 ln3 cp3], x3, (HS3.out.below (by repeat (first | with_reducible exact Below.refl _ _ | with_reducible refine Below.alloc ?_ (by first | omega | (simp; done) | (simp; omega)) _ | with_reducible refine Below.drew ?_ | with_reducible refine Below.setCell ?_ (by first | (dsimp only; omega) | (simp; omega)) _ ))), ((HX3.out.keep (by repeat (first | with_reducible exact Kept.refl _ _ | with_reducible refine Kept.alloc ?_ _ | with_reducible refine Kept.drew ?_ | with_reducible refine Kept.setCell ?_ (by first | (left; dsimp only; omega) | (right; dsimp only; omega) | (left; simp; omega) | (right; simp; omega)) _ | with_reducible refine Kept.but ?_ (by assumption) (by first | omega | (simp; omega)) | with_reducible refine Kept.below ?_ (by assumption)))).low (by first | omega | (simp; done) | (simp; omega))), Or.inl ⟨?_, HG3.out, by decide⟩⟩⟩
    exact HM3.out.kid hne 6 _ _ _ _ _ _
  · have l1 := hb1.size
    (try simp at l1)
    have HM1 := Hid.intro (MB.but (HM0.out) hb1 (by omega) (by omega))
    have HG1 := Hid.intro hG
    have HS1 := Hid.intro hs
    clear hG hs
    clear c0 cf0 c1 cf1 c2 cf2 c3 cf3 c4 cf4 c5 cf5
    obtain ⟨⟨z0, z1, z2, z3, z4, z5⟩, zf, zl⟩ := HM1.out.cells
    obtain ⟨zk, zg, zn⟩ := HM1.out.kids
    have zf0 := zf 0
    have zf1 := zf 1
    have zf2 := zf 2
    have zf3 := zf 3
    have zf4 := zf 4
    have zf5 := zf 5
    clear zk zf zg
    go_wp2_with fail
    refine (may_step ⟨#[115, 111, 109, 101]⟩ (by decide) _ (HS1.out.below (by repeat (first | with_reducible exact Below.refl _ _ | with_reducible refine Below.alloc ?_ (by first | omega | (simp; done) | (simp; omega)) _ | with_reducible refine Below.drew ?_ | with_reducible refine Below.setCell ?_ (by first | (dsimp only; omega) | (simp; omega)) _ ))) HG1.out).mono ?_
    rintro e w4 ⟨hb4, ⟨rfl, r4, hs, hG⟩ | ⟨rfl, hs, hG⟩⟩
    · have l4 := hb4.size
      (try simp at l4)
      have HM4 := Hid.intro (MB.but (HM1.out) hb4 (by omega) (by omega))
      have HG4 := Hid.intro hG
      have HS4 := Hid.intro hs
      clear hG hs
      clear z0 zf0 z1 zf1 z2 zf2 z3 zf3 z4 zf4 z5 zf5
      obtain ⟨⟨d0, d1, d2, d3, d4, d5⟩, df, dl⟩ := HM4.out.cells
      obtain ⟨dk, dg, dn⟩ := HM4.out.kids
      have df0 := df 0
      have df1 := df 1
      have df2 := df 2
      have df3 := df 3
      have df4 := df 4
      have df5 := df 5
      clear dk df dg
      go_wp2_with fail
      refine (name_step _ (HS4.out.below (by repeat (first | with_reducible exact Below.refl _ _ | with_reducible refine Below.alloc ?_ (by first | omega | (simp; done) | (simp; omega)) _ | with_reducible refine Below.drew ?_ | with_reducible refine Below.setCell ?_ (by first | (dsimp only; omega) | (simp; omega)) _ ))) HG4.out).mono ?_
      rintro e w5 ⟨hb5, ⟨t5, r5, rfl, hs, hG⟩ | ⟨c, p, rfl, hG⟩⟩
      rotate_left
      · exact ⟨rfl, (by repeat (first | with_reducible exact But3.refl _ _ _ _ | with_reducible refine But3.drew ?_ | with_reducible refine But3.setCell ?_ (by first | (left; rfl) | (right; rfl)) _ | with_reducible refine But3.trans ?_ (by assumption))), Or.inr ⟨c, p, rfl, hG⟩⟩
      have l5 := hb5.size
      (try simp at l5)
      have HM5 := Hid.intro (MB.but (HM4.out.num hne 2) hb5 (by omega) (by omega))
      have HG5 := Hid.intro hG
      have HS5 := Hid.intro hs
      clear hG hs
      clear d0 df0 d1 df1 d2 df2 d3 df3 d4 df4 d5 df5
      obtain ⟨⟨g0, g1, g2, g3, g4, g5⟩, gf, gl⟩ := HM5.out.cells
      obtain ⟨gk, gg, gn⟩ := HM5.out.kids
      have gf0 := gf 0
      have gf1 := gf 1
      have gf2 := gf 2
      have gf3 := gf 3
      have gf4 := gf 4
      have gf5 := gf 5
      clear gk gf gg
      go_wp2_with fail
      refine (must_step ⟨#[45, 62]⟩ (by decide) _ (HS5.out.below (by repeat (first | with_reducible exact Below.refl _ _ | with_reducible refine Below.alloc ?_ (by first | omega | (simp; done) | (simp; omega)) _ | with_reducible refine Below.drew ?_ | with_reducible refine Below.setCell ?_ (by first | (dsimp only; omega) | (simp; omega)) _ ))) HG5.out).mono ?_
      rintro e w6 ⟨hb6, ⟨t6, r6, rfl, hs, hG⟩ | ⟨c, p, rfl, hG⟩⟩
      rotate_left
      · exact ⟨rfl, (by repeat (first | with_reducible exact But3.refl _ _ _ _ | with_reducible refine But3.drew ?_ | with_reducible refine But3.setCell ?_ (by first | (left; rfl) | (right; rfl)) _ | with_reducible refine But3.trans ?_ (by assumption))), Or.inr ⟨c, p, rfl, hG⟩⟩
      have l6 := hb6.size
      (try simp at l6)
      have HM6 := Hid.intro (MB.but (HM5.out.name hne ⟨t5.text.toArray⟩) hb6 (by omega) (by omega))
      have HG6 := Hid.intro hG
      have HS6 := Hid.intro hs
      clear hG hs
      clear g0 gf0 g1 gf1 g2 gf2 g3 gf3 g4 gf4 g5 gf5
      obtain ⟨⟨j0, j1, j2, j3, j4, j5⟩, jf, jl⟩ := HM6.out.cells
      obtain ⟨jk, jg, jn⟩ := HM6.out.kids
      have jf0 := jf 0
      have jf1 := jf 1
      have jf2 := jf 2
      have jf3 := jf 3
      have jf4 := jf 4
      have jf5 := jf 5
      have jk0 := jk 12 (by omega)
      have jg0 := jg 12
      have jk1 := jk 13 (by omega)
      have jg1 := jg 13
      have jk2 := jk 14 (by omega)
      have jg2 := jg 14
      have jk3 := jk 15 (by omega)
      have jg3 := jg 15
      have jk4 := jk 16 (by omega)
      have jg4 := jg 16
      have jk5 := jk 17 (by omega)
      have jg5 := jg 17
      clear jk jf jg
      go_wp2_with fail
      have dd0 : M ≠ K := hne
      have dd1 : K ≠ M := fun q => hne q.symm
      go_region_held (fun w' => w'.cell? ⟨M, 5, none⟩ = some (.slice (some ⟨K, 0, none⟩) 3 3)) (go_keep)
        (first | (go_at_call 130; refine (HKE.out _ _ _ _ (HS6.out.below (by repeat (first | with_reducible exact Below.refl _ _ | with_reducible refine Below.alloc ?_ (by first | omega | (simp; done) | (simp; omega)) _ | with_reducible refine Below.drew ?_ | with_reducible refine Below.setCell ?_ (by first | (dsimp only; omega) | (simp; omega)) _ ))) HO.out HG6.out).mono ?_; rintro e w7 ⟨hb7, ⟨v7, x7, r7, rfl, hx7, hs, hG⟩ | ⟨c, p, rfl, hG⟩⟩; rotate_left; (exact ⟨rfl, (by repeat (first | with_reducible exact But3.refl _ _ _ _ | with_reducible refine But3.drew ?_ | with_reducible refine But3.setCell ?_ (by first | (left; rfl) | (right; rfl)) _ | with_reducible refine But3.trans ?_ (by assumption))), Or.inr ⟨c, p, rfl, hG⟩⟩); obtain ⟨nn7, tx7, ox7, a7, ln7, cp7, rfl, htx7⟩ := hx7.form2; have HX7 := Hid.intro hx7; clear hx7 htx7; have l7 := hb7.size; (try simp at l7); have HM7 := Hid.intro (MB.but (HM6.out.same (w' := World.drew _) rfl rfl) hb7 (by omega) (by omega)); have HG7 := Hid.intro hG; have HS7 := Hid.intro hs; clear hG hs; obtain ⟨⟨h0, h1, h2, h3, h4, h5⟩, hf, hl⟩ := HM7.out.cells; obtain ⟨hk, hg, hn⟩ := HM7.out.kids; have hk0 := hk 12 (by omega); have hk1 := hk 13 (by omega); have hk2 := hk 14 (by omega); have hk3 := hk 15 (by omega); have hk4 := hk 16 (by omega); have hk5 := hk 17 (by omega); have hg0 := hg 12; have hg1 := hg 13; have hg2 := hg 14; have hg3 := hg 15; have hg4 := hg 16; have hg5 := hg 17; clear hk hf))
      (try simp only [Exit.then])
      (try go_wp2_with fail)
      refine ⟨rfl, .tuple #[], results_none rfl _ _ _, (by repeat (first | with_reducible exact But3.refl _ _ _ _ | with_reducible refine But3.drew ?_ | with_reducible refine But3.setCell ?_ (by first | (left; rfl) | (right; rfl)) _ | with_reducible refine But3.trans ?_ (by assumption))), Or.inl ⟨rfl, _, .agg #[.int .i64 (x7.kind : Int), .string tx7, .string ox7, .int .i64 nn7, .int .i64 (x7.pl : Int), .slice a7 ln7 cp7], x7, (HS7.out.below (by repeat (first | with_reducible exact Below.refl _ _ | with_reducible refine Below.alloc ?_ (by first | omega | (simp; done) | (simp; omega)) _ | with_reducible refine Below.drew ?_ | with_reducible refine Below.setCell ?_ (by first | (dsimp only; omega) | (simp; omega)) _ ))), ((HX7.out.keep (by repeat (first | with_reducible exact Kept.refl _ _ | with_reducible refine Kept.alloc ?_ _ | with_reducible refine Kept.drew ?_ | with_reducible refine Kept.setCell ?_ (by first | (left; dsimp only; omega) | (right; dsimp only; omega) | (left; simp; omega) | (right; simp; omega)) _ | with_reducible refine Kept.but ?_ (by assumption) (by first | omega | (simp; omega)) | with_reducible refine Kept.below ?_ (by assumption)))).low (by first | omega | (simp; done) | (simp; omega))), Or.inr ⟨t5.text, ?_, HG7.out, by decide⟩⟩⟩
      exact HM7.out.kid hne 12 _ _ _ _ _ _
    · have l4 := hb4.size
      (try simp at l4)
      have HM4 := Hid.intro (MB.but (HM1.out) hb4 (by omega) (by omega))
      have HG4 := Hid.intro hG
      have HS4 := Hid.intro hs
      clear hG hs
      clear z0 zf0 z1 zf1 z2 zf2 z3 zf3 z4 zf4 z5 zf5
      obtain ⟨⟨d0, d1, d2, d3, d4, d5⟩, df, dl⟩ := HM4.out.cells
      obtain ⟨dk, dg, dn⟩ := HM4.out.kids
      have df0 := df 0
      have df1 := df 1
      have df2 := df 2
      have df3 := df 3
      have df4 := df 4
      have df5 := df 5
      clear dk df dg
      have HGo : Hid (Gone en O 11 (place en ts)) := Or.inl ⟨rfl, _, HG4.out.symm, rfl⟩
      go_wp2_with fail
      refine (stop_any Z R en ts _ (HS4.out.below (by repeat (first | with_reducible exact Below.refl _ _ | with_reducible refine Below.alloc ?_ (by first | omega | (simp; done) | (simp; omega)) _ | with_reducible refine Below.drew ?_ | with_reducible refine Below.setCell ?_ (by first | (dsimp only; omega) | (simp; omega)) _ )))).mono ?_
      rintro e w8 ⟨rfl, hp⟩
      have hb8 := But.of (R := R) hp
      exact ⟨rfl, (by repeat (first | with_reducible exact But3.refl _ _ _ _ | with_reducible refine But3.drew ?_ | with_reducible refine But3.setCell ?_ (by first | (left; rfl) | (right; rfl)) _ | with_reducible refine But3.trans ?_ (by assumption))), Or.inr ⟨11, _, rfl, HGo.out⟩⟩

set_option maxHeartbeats 8000000 in
theorem arm1 {Z R en f : Nat} (KE : Reads Z R en f 130 .expr) {M K p0 : Nat} {tx : ByteArray} {y : Nat → Value} {kn : Ex → Cmd} {ks : List UInt8 → Ex → Cmd} {ts : List Tok} {O : Out} {w : World} (hw : St Z R en w ts) (hM : Z ≤ M) (hK : Z ≤ K) (hne : M ≠ K) (hm : MB w M K tx 1 p0 y) (hO : O ≠ .out) (hg : runC en (P en f) (armC 1 kn ks) ts = O) : Calls Tryz.prog 177 #[.pointer (some ⟨R, 0, none⟩), .pointer (some ⟨M, 0, none⟩)] w (ArmEnd Z R en f M K p0 tx 1 y kn ks w O) := by
  have lz : Z ≤ w.heap.size := hw.size
  have lr : R < Z := hw.rz
  have HO := Hid.intro hO
  have HW := Hid.intro hw
  have HM0 := Hid.intro hm
  have HKE := Hid.intro KE
  have HG0 : Hid (runC en (P en f) (armC 1 kn ks) ts = O) := Hid.intro hg
  clear KE hw hO hg hm
  have F1 := fld1
  have b01 : bits BinOp.and IntKind.i64 0 1 = 0 := by decide
  have b02 : bits BinOp.and IntKind.i64 0 2 = 0 := by decide
  have b11 : bits BinOp.and IntKind.i64 1 1 = 1 := by decide
  have b12 : bits BinOp.and IntKind.i64 1 2 = 0 := by decide
  have b21 : bits BinOp.and IntKind.i64 2 1 = 0 := by decide
  have b22 : bits BinOp.and IntKind.i64 2 2 = 2 := by decide
  have o01 : bits BinOp.or IntKind.i64 0 1 = 1 := by decide
  have o02 : bits BinOp.or IntKind.i64 0 2 = 2 := by decide
  have o12 : bits BinOp.or IntKind.i64 1 2 = 3 := by decide
  have o21 : bits BinOp.or IntKind.i64 2 1 = 3 := by decide
  obtain ⟨⟨c0, c1, c2, c3, c4, c5⟩, cf, cl⟩ := HM0.out.cells
  obtain ⟨ck, cg, cn⟩ := HM0.out.kids
  have cf0 := cf 0
  have cf1 := cf 1
  have cf2 := cf 2
  have cf3 := cf 3
  have cf4 := cf 4
  have cf5 := cf 5
  clear ck cf cg
  unfold armC at HG0
  rw [if_pos rfl] at HG0
  go_enter Tryz.func177, Tryz.ntmps177
  go_wp2_with fail
  refine (may_step ⟨#[115, 111, 109, 101]⟩ (by decide) _ (HW.out.below (by repeat (first | with_reducible exact Below.refl _ _ | with_reducible refine Below.alloc ?_ (by first | omega | (simp; done) | (simp; omega)) _ | with_reducible refine Below.drew ?_ | with_reducible refine Below.setCell ?_ (by first | (dsimp only; omega) | (simp; omega)) _ ))) HG0.out).mono ?_
  rintro e w1 ⟨hb1, ⟨rfl, r1, hs, hG⟩ | ⟨rfl, hs, hG⟩⟩
  · have l1 := hb1.size
    (try simp at l1)
    have HM1 := Hid.intro (MB.but (HM0.out) hb1 (by omega) (by omega))
    have HG1 := Hid.intro hG
    have HS1 := Hid.intro hs
    clear hG hs
    clear c0 cf0 c1 cf1 c2 cf2 c3 cf3 c4 cf4 c5 cf5
    obtain ⟨⟨d0, d1, d2, d3, d4, d5⟩, df, dl⟩ := HM1.out.cells
    obtain ⟨dk, dg, dn⟩ := HM1.out.kids
    have df0 := df 0
    have df1 := df 1
    have df2 := df 2
    have df3 := df 3
    have df4 := df 4
    have df5 := df 5
    clear dk df dg
    go_wp2_with fail
    refine (name_step _ (HS1.out.below (by repeat (first | with_reducible exact Below.refl _ _ | with_reducible refine Below.alloc ?_ (by first | omega | (simp; done) | (simp; omega)) _ | with_reducible refine Below.drew ?_ | with_reducible refine Below.setCell ?_ (by first | (dsimp only; omega) | (simp; omega)) _ ))) HG1.out).mono ?_
    rintro e w2 ⟨hb2, ⟨t2, r2, rfl, hs, hG⟩ | ⟨c, p, rfl, hG⟩⟩
    rotate_left
    · exact ⟨rfl, (by repeat (first | with_reducible exact But3.refl _ _ _ _ | with_reducible refine But3.drew ?_ | with_reducible refine But3.setCell ?_ (by first | (left; rfl) | (right; rfl)) _ | with_reducible refine But3.trans ?_ (by assumption))), Or.inr ⟨c, p, rfl, hG⟩⟩
    have l2 := hb2.size
    (try simp at l2)
    have HM2 := Hid.intro (MB.but (HM1.out.num hne 3) hb2 (by omega) (by omega))
    have HG2 := Hid.intro hG
    have HS2 := Hid.intro hs
    clear hG hs
    clear d0 df0 d1 df1 d2 df2 d3 df3 d4 df4 d5 df5
    obtain ⟨⟨g0, g1, g2, g3, g4, g5⟩, gf, gl⟩ := HM2.out.cells
    obtain ⟨gk, gg, gn⟩ := HM2.out.kids
    have gf0 := gf 0
    have gf1 := gf 1
    have gf2 := gf 2
    have gf3 := gf 3
    have gf4 := gf 4
    have gf5 := gf 5
    clear gk gf gg
    go_wp2_with fail
    refine (must_step ⟨#[45, 62]⟩ (by decide) _ (HS2.out.below (by repeat (first | with_reducible exact Below.refl _ _ | with_reducible refine Below.alloc ?_ (by first | omega | (simp; done) | (simp; omega)) _ | with_reducible refine Below.drew ?_ | with_reducible refine Below.setCell ?_ (by first | (dsimp only; omega) | (simp; omega)) _ ))) HG2.out).mono ?_
    rintro e w3 ⟨hb3, ⟨t3, r3, rfl, hs, hG⟩ | ⟨c, p, rfl, hG⟩⟩
    rotate_left
    · exact ⟨rfl, (by repeat (first | with_reducible exact But3.refl _ _ _ _ | with_reducible refine But3.drew ?_ | with_reducible refine But3.setCell ?_ (by first | (left; rfl) | (right; rfl)) _ | with_reducible refine But3.trans ?_ (by assumption))), Or.inr ⟨c, p, rfl, hG⟩⟩
    have l3 := hb3.size
    (try simp at l3)
    have HM3 := Hid.intro (MB.but (HM2.out.name hne ⟨t2.text.toArray⟩) hb3 (by omega) (by omega))
    have HG3 := Hid.intro hG
    have HS3 := Hid.intro hs
    clear hG hs
    clear g0 gf0 g1 gf1 g2 gf2 g3 gf3 g4 gf4 g5 gf5
    obtain ⟨⟨j0, j1, j2, j3, j4, j5⟩, jf, jl⟩ := HM3.out.cells
    obtain ⟨jk, jg, jn⟩ := HM3.out.kids
    have jf0 := jf 0
    have jf1 := jf 1
    have jf2 := jf 2
    have jf3 := jf 3
    have jf4 := jf 4
    have jf5 := jf 5
    have jk0 := jk 12 (by omega)
    have jg0 := jg 12
    have jk1 := jk 13 (by omega)
    have jg1 := jg 13
    have jk2 := jk 14 (by omega)
    have jg2 := jg 14
    have jk3 := jk 15 (by omega)
    have jg3 := jg 15
    have jk4 := jk 16 (by omega)
    have jg4 := jg 16
    have jk5 := jk 17 (by omega)
    have jg5 := jg 17
    clear jk jf jg
    go_wp2_with fail
    have dd0 : M ≠ K := hne
    have dd1 : K ≠ M := fun q => hne q.symm
    go_region_held (fun w' => w'.cell? ⟨M, 5, none⟩ = some (.slice (some ⟨K, 0, none⟩) 3 3)) (go_keep)
      (first | (go_at_call 130; refine (HKE.out _ _ _ _ (HS3.out.below (by repeat (first | with_reducible exact Below.refl _ _ | with_reducible refine Below.alloc ?_ (by first | omega | (simp; done) | (simp; omega)) _ | with_reducible refine Below.drew ?_ | with_reducible refine Below.setCell ?_ (by first | (dsimp only; omega) | (simp; omega)) _ ))) HO.out HG3.out).mono ?_; rintro e w4 ⟨hb4, ⟨v4, x4, r4, rfl, hx4, hs, hG⟩ | ⟨c, p, rfl, hG⟩⟩; rotate_left; (exact ⟨rfl, (by repeat (first | with_reducible exact But3.refl _ _ _ _ | with_reducible refine But3.drew ?_ | with_reducible refine But3.setCell ?_ (by first | (left; rfl) | (right; rfl)) _ | with_reducible refine But3.trans ?_ (by assumption))), Or.inr ⟨c, p, rfl, hG⟩⟩); obtain ⟨nn4, tx4, ox4, a4, ln4, cp4, rfl, htx4⟩ := hx4.form2; have HX4 := Hid.intro hx4; clear hx4 htx4; have l4 := hb4.size; (try simp at l4); have HM4 := Hid.intro (MB.but (HM3.out.same (w' := World.drew _) rfl rfl) hb4 (by omega) (by omega)); have HG4 := Hid.intro hG; have HS4 := Hid.intro hs; clear hG hs; obtain ⟨⟨h0, h1, h2, h3, h4, h5⟩, hf, hl⟩ := HM4.out.cells; obtain ⟨hk, hg, hn⟩ := HM4.out.kids; have hk0 := hk 12 (by omega); have hk1 := hk 13 (by omega); have hk2 := hk 14 (by omega); have hk3 := hk 15 (by omega); have hk4 := hk 16 (by omega); have hk5 := hk 17 (by omega); have hg0 := hg 12; have hg1 := hg 13; have hg2 := hg 14; have hg3 := hg 15; have hg4 := hg 16; have hg5 := hg 17; clear hk hf))
    (try simp only [Exit.then])
    (try go_wp2_with fail)
    refine ⟨rfl, .tuple #[], results_none rfl _ _ _, (by repeat (first | with_reducible exact But3.refl _ _ _ _ | with_reducible refine But3.drew ?_ | with_reducible refine But3.setCell ?_ (by first | (left; rfl) | (right; rfl)) _ | with_reducible refine But3.trans ?_ (by assumption))), Or.inl ⟨rfl, _, .agg #[.int .i64 (x4.kind : Int), .string tx4, .string ox4, .int .i64 nn4, .int .i64 (x4.pl : Int), .slice a4 ln4 cp4], x4, (HS4.out.below (by repeat (first | with_reducible exact Below.refl _ _ | with_reducible refine Below.alloc ?_ (by first | omega | (simp; done) | (simp; omega)) _ | with_reducible refine Below.drew ?_ | with_reducible refine Below.setCell ?_ (by first | (dsimp only; omega) | (simp; omega)) _ ))), ((HX4.out.keep (by repeat (first | with_reducible exact Kept.refl _ _ | with_reducible refine Kept.alloc ?_ _ | with_reducible refine Kept.drew ?_ | with_reducible refine Kept.setCell ?_ (by first | (left; dsimp only; omega) | (right; dsimp only; omega) | (left; simp; omega) | (right; simp; omega)) _ | with_reducible refine Kept.but ?_ (by assumption) (by first | omega | (simp; omega)) | with_reducible refine Kept.below ?_ (by assumption)))).low (by first | omega | (simp; done) | (simp; omega))), Or.inr ⟨t2.text, ?_, HG4.out, by decide⟩⟩⟩
    exact HM4.out.kid hne 12 _ _ _ _ _ _
  · have l1 := hb1.size
    (try simp at l1)
    have HM1 := Hid.intro (MB.but (HM0.out) hb1 (by omega) (by omega))
    have HG1 := Hid.intro hG
    have HS1 := Hid.intro hs
    clear hG hs
    clear c0 cf0 c1 cf1 c2 cf2 c3 cf3 c4 cf4 c5 cf5
    obtain ⟨⟨d0, d1, d2, d3, d4, d5⟩, df, dl⟩ := HM1.out.cells
    obtain ⟨dk, dg, dn⟩ := HM1.out.kids
    have df0 := df 0
    have df1 := df 1
    have df2 := df 2
    have df3 := df 3
    have df4 := df 4
    have df5 := df 5
    clear dk df dg
    have HGo : Hid (Gone en O 11 (place en ts)) := Or.inl ⟨rfl, _, HG1.out.symm, rfl⟩
    go_wp2_with fail
    refine (stop_any Z R en ts _ (HS1.out.below (by repeat (first | with_reducible exact Below.refl _ _ | with_reducible refine Below.alloc ?_ (by first | omega | (simp; done) | (simp; omega)) _ | with_reducible refine Below.drew ?_ | with_reducible refine Below.setCell ?_ (by first | (dsimp only; omega) | (simp; omega)) _ )))).mono ?_
    rintro e w5 ⟨rfl, hp⟩
    have hb5 := But.of (R := R) hp
    exact ⟨rfl, (by repeat (first | with_reducible exact But3.refl _ _ _ _ | with_reducible refine But3.drew ?_ | with_reducible refine But3.setCell ?_ (by first | (left; rfl) | (right; rfl)) _ | with_reducible refine But3.trans ?_ (by assumption))), Or.inr ⟨11, _, rfl, HGo.out⟩⟩

set_option maxHeartbeats 8000000 in
theorem arm2 {Z R en f : Nat} (KE : Reads Z R en f 130 .expr) {M K p0 : Nat} {tx : ByteArray} {y : Nat → Value} {kn : Ex → Cmd} {ks : List UInt8 → Ex → Cmd} {ts : List Tok} {O : Out} {w : World} (hw : St Z R en w ts) (hM : Z ≤ M) (hK : Z ≤ K) (hne : M ≠ K) (hm : MB w M K tx 2 p0 y) (hO : O ≠ .out) (hg : runC en (P en f) (armC 2 kn ks) ts = O) : Calls Tryz.prog 177 #[.pointer (some ⟨R, 0, none⟩), .pointer (some ⟨M, 0, none⟩)] w (ArmEnd Z R en f M K p0 tx 2 y kn ks w O) := by
  have lz : Z ≤ w.heap.size := hw.size
  have lr : R < Z := hw.rz
  have HO := Hid.intro hO
  have HW := Hid.intro hw
  have HM0 := Hid.intro hm
  have HKE := Hid.intro KE
  have HG0 : Hid (runC en (P en f) (armC 2 kn ks) ts = O) := Hid.intro hg
  clear KE hw hO hg hm
  have F1 := fld1
  have b01 : bits BinOp.and IntKind.i64 0 1 = 0 := by decide
  have b02 : bits BinOp.and IntKind.i64 0 2 = 0 := by decide
  have b11 : bits BinOp.and IntKind.i64 1 1 = 1 := by decide
  have b12 : bits BinOp.and IntKind.i64 1 2 = 0 := by decide
  have b21 : bits BinOp.and IntKind.i64 2 1 = 0 := by decide
  have b22 : bits BinOp.and IntKind.i64 2 2 = 2 := by decide
  have o01 : bits BinOp.or IntKind.i64 0 1 = 1 := by decide
  have o02 : bits BinOp.or IntKind.i64 0 2 = 2 := by decide
  have o12 : bits BinOp.or IntKind.i64 1 2 = 3 := by decide
  have o21 : bits BinOp.or IntKind.i64 2 1 = 3 := by decide
  obtain ⟨⟨c0, c1, c2, c3, c4, c5⟩, cf, cl⟩ := HM0.out.cells
  obtain ⟨ck, cg, cn⟩ := HM0.out.kids
  have cf0 := cf 0
  have cf1 := cf 1
  have cf2 := cf 2
  have cf3 := cf 3
  have cf4 := cf 4
  have cf5 := cf 5
  clear ck cf cg
  unfold armC at HG0
  rw [if_neg (by decide), if_pos rfl] at HG0
  go_enter Tryz.func177, Tryz.ntmps177
  go_wp2_with fail
  refine (may_step ⟨#[110, 111, 110, 101]⟩ (by decide) _ (HW.out.below (by repeat (first | with_reducible exact Below.refl _ _ | with_reducible refine Below.alloc ?_ (by first | omega | (simp; done) | (simp; omega)) _ | with_reducible refine Below.drew ?_ | with_reducible refine Below.setCell ?_ (by first | (dsimp only; omega) | (simp; omega)) _ ))) HG0.out).mono ?_
  rintro e w1 ⟨hb1, ⟨rfl, r1, hs, hG⟩ | ⟨rfl, hs, hG⟩⟩
  · have l1 := hb1.size
    (try simp at l1)
    have HM1 := Hid.intro (MB.but (HM0.out) hb1 (by omega) (by omega))
    have HG1 := Hid.intro hG
    have HS1 := Hid.intro hs
    clear hG hs
    clear c0 cf0 c1 cf1 c2 cf2 c3 cf3 c4 cf4 c5 cf5
    obtain ⟨⟨d0, d1, d2, d3, d4, d5⟩, df, dl⟩ := HM1.out.cells
    obtain ⟨dk, dg, dn⟩ := HM1.out.kids
    have df0 := df 0
    have df1 := df 1
    have df2 := df 2
    have df3 := df 3
    have df4 := df 4
    have df5 := df 5
    clear dk df dg
    go_wp2_with fail
    refine (must_step ⟨#[45, 62]⟩ (by decide) _ (HS1.out.below (by repeat (first | with_reducible exact Below.refl _ _ | with_reducible refine Below.alloc ?_ (by first | omega | (simp; done) | (simp; omega)) _ | with_reducible refine Below.drew ?_ | with_reducible refine Below.setCell ?_ (by first | (dsimp only; omega) | (simp; omega)) _ ))) HG1.out).mono ?_
    rintro e w2 ⟨hb2, ⟨t2, r2, rfl, hs, hG⟩ | ⟨c, p, rfl, hG⟩⟩
    rotate_left
    · exact ⟨rfl, (by repeat (first | with_reducible exact But3.refl _ _ _ _ | with_reducible refine But3.drew ?_ | with_reducible refine But3.setCell ?_ (by first | (left; rfl) | (right; rfl)) _ | with_reducible refine But3.trans ?_ (by assumption))), Or.inr ⟨c, p, rfl, hG⟩⟩
    have l2 := hb2.size
    (try simp at l2)
    have HM2 := Hid.intro (MB.but (HM1.out.num hne 3) hb2 (by omega) (by omega))
    have HG2 := Hid.intro hG
    have HS2 := Hid.intro hs
    clear hG hs
    clear d0 df0 d1 df1 d2 df2 d3 df3 d4 df4 d5 df5
    obtain ⟨⟨g0, g1, g2, g3, g4, g5⟩, gf, gl⟩ := HM2.out.cells
    obtain ⟨gk, gg, gn⟩ := HM2.out.kids
    have gf0 := gf 0
    have gf1 := gf 1
    have gf2 := gf 2
    have gf3 := gf 3
    have gf4 := gf 4
    have gf5 := gf 5
    have gk0 := gk 6 (by omega)
    have gg0 := gg 6
    have gk1 := gk 7 (by omega)
    have gg1 := gg 7
    have gk2 := gk 8 (by omega)
    have gg2 := gg 8
    have gk3 := gk 9 (by omega)
    have gg3 := gg 9
    have gk4 := gk 10 (by omega)
    have gg4 := gg 10
    have gk5 := gk 11 (by omega)
    have gg5 := gg 11
    clear gk gf gg
    go_wp2_with fail
    have dd0 : M ≠ K := hne
    have dd1 : K ≠ M := fun q => hne q.symm
    go_region_held (fun w' => w'.cell? ⟨M, 5, none⟩ = some (.slice (some ⟨K, 0, none⟩) 3 3)) (go_keep)
      (first | (go_at_call 130; refine (HKE.out _ _ _ _ (HS2.out.below (by repeat (first | with_reducible exact Below.refl _ _ | with_reducible refine Below.alloc ?_ (by first | omega | (simp; done) | (simp; omega)) _ | with_reducible refine Below.drew ?_ | with_reducible refine Below.setCell ?_ (by first | (dsimp only; omega) | (simp; omega)) _ ))) HO.out HG2.out).mono ?_; rintro e w3 ⟨hb3, ⟨v3, x3, r3, rfl, hx3, hs, hG⟩ | ⟨c, p, rfl, hG⟩⟩; rotate_left; (exact ⟨rfl, (by repeat (first | with_reducible exact But3.refl _ _ _ _ | with_reducible refine But3.drew ?_ | with_reducible refine But3.setCell ?_ (by first | (left; rfl) | (right; rfl)) _ | with_reducible refine But3.trans ?_ (by assumption))), Or.inr ⟨c, p, rfl, hG⟩⟩); obtain ⟨nn3, tx3, ox3, a3, ln3, cp3, rfl, htx3⟩ := hx3.form2; have HX3 := Hid.intro hx3; clear hx3 htx3; have l3 := hb3.size; (try simp at l3); have HM3 := Hid.intro (MB.but (HM2.out.same (w' := World.drew _) rfl rfl) hb3 (by omega) (by omega)); have HG3 := Hid.intro hG; have HS3 := Hid.intro hs; clear hG hs; obtain ⟨⟨h0, h1, h2, h3, h4, h5⟩, hf, hl⟩ := HM3.out.cells; obtain ⟨hk, hg, hn⟩ := HM3.out.kids; have hk0 := hk 6 (by omega); have hk1 := hk 7 (by omega); have hk2 := hk 8 (by omega); have hk3 := hk 9 (by omega); have hk4 := hk 10 (by omega); have hk5 := hk 11 (by omega); have hg0 := hg 6; have hg1 := hg 7; have hg2 := hg 8; have hg3 := hg 9; have hg4 := hg 10; have hg5 := hg 11; clear hk hf))
    (try simp only [Exit.then])
    (try go_wp2_with fail)
    refine ⟨rfl, .tuple #[], results_none rfl _ _ _, (by repeat (first | with_reducible exact But3.refl _ _ _ _ | with_reducible refine But3.drew ?_ | with_reducible refine But3.setCell ?_ (by first | (left; rfl) | (right; rfl)) _ | with_reducible refine But3.trans ?_ (by assumption))), Or.inl ⟨rfl, _, .agg #[.int .i64 (x3.kind : Int), .string tx3, .string ox3, .int .i64 nn3, .int .i64 (x3.pl : Int), .slice a3 ln3 cp3], x3, (HS3.out.below (by repeat (first | with_reducible exact Below.refl _ _ | with_reducible refine Below.alloc ?_ (by first | omega | (simp; done) | (simp; omega)) _ | with_reducible refine Below.drew ?_ | with_reducible refine Below.setCell ?_ (by first | (dsimp only; omega) | (simp; omega)) _ ))), ((HX3.out.keep (by repeat (first | with_reducible exact Kept.refl _ _ | with_reducible refine Kept.alloc ?_ _ | with_reducible refine Kept.drew ?_ | with_reducible refine Kept.setCell ?_ (by first | (left; dsimp only; omega) | (right; dsimp only; omega) | (left; simp; omega) | (right; simp; omega)) _ | with_reducible refine Kept.but ?_ (by assumption) (by first | omega | (simp; omega)) | with_reducible refine Kept.below ?_ (by assumption)))).low (by first | omega | (simp; done) | (simp; omega))), Or.inl ⟨?_, HG3.out, by decide⟩⟩⟩
    exact HM3.out.kid hne 6 _ _ _ _ _ _
  · have l1 := hb1.size
    (try simp at l1)
    have HM1 := Hid.intro (MB.but (HM0.out) hb1 (by omega) (by omega))
    have HG1 := Hid.intro hG
    have HS1 := Hid.intro hs
    clear hG hs
    clear c0 cf0 c1 cf1 c2 cf2 c3 cf3 c4 cf4 c5 cf5
    obtain ⟨⟨d0, d1, d2, d3, d4, d5⟩, df, dl⟩ := HM1.out.cells
    obtain ⟨dk, dg, dn⟩ := HM1.out.kids
    have df0 := df 0
    have df1 := df 1
    have df2 := df 2
    have df3 := df 3
    have df4 := df 4
    have df5 := df 5
    clear dk df dg
    have HGo : Hid (Gone en O 11 (place en ts)) := Or.inl ⟨rfl, _, HG1.out.symm, rfl⟩
    go_wp2_with fail
    refine (stop_any Z R en ts _ (HS1.out.below (by repeat (first | with_reducible exact Below.refl _ _ | with_reducible refine Below.alloc ?_ (by first | omega | (simp; done) | (simp; omega)) _ | with_reducible refine Below.drew ?_ | with_reducible refine Below.setCell ?_ (by first | (dsimp only; omega) | (simp; omega)) _ )))).mono ?_
    rintro e w4 ⟨rfl, hp⟩
    have hb4 := But.of (R := R) hp
    exact ⟨rfl, (by repeat (first | with_reducible exact But3.refl _ _ _ _ | with_reducible refine But3.drew ?_ | with_reducible refine But3.setCell ?_ (by first | (left; rfl) | (right; rfl)) _ | with_reducible refine But3.trans ?_ (by assumption))), Or.inr ⟨11, _, rfl, HGo.out⟩⟩
end Go.Proofs.YtkljakeccfnakaaGreatDoor
