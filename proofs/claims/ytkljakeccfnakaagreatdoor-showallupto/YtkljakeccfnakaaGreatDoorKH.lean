/-
  The walk of an expression.
-/
import Derived.Test.YtkljakeccfnakaaGreatDoorKG
import Derived.Test.YtkljakeccfnakaaGreatDoorGg
import Derived.Test.YtkljakeccfnakaaGreatDoorHK
import Derived.Test.YtkljakeccfnakaaGreatDoorHI
namespace Go.Proofs.YtkljakeccfnakaaGreatDoor
open Go.RowKit

theorem see_no {en : Nat} {Rr : Sym → List Tok → Out} {p : Tok → Bool} {a b : Cmd} {ts : List Tok} (h : hd p ts = false) : runC en Rr (.see p a b) ts = runC en Rr b ts := by simp [runC, h]
theorem see_yes {en : Nat} {Rr : Sym → List Tok → Out} {p : Tok → Bool} {a b : Cmd} {ts : List Tok} (h : hd p ts = true) : runC en Rr (.see p a b) ts = runC en Rr a ts := by simp [runC, h]
theorem see2_no {en : Nat} {Rr : Sym → List Tok → Out} {p : Tok → Bool} {a b : Cmd} {ts : List Tok} (h : hd p ts.tail = false) : runC en Rr (.see2 p a b) ts = runC en Rr b ts := by simp [runC, h]
theorem see2_yes {en : Nat} {Rr : Sym → List Tok → Out} {p : Tok → Bool} {a b : Cmd} {ts : List Tok} (h : hd p ts.tail = true) : runC en Rr (.see2 p a b) ts = runC en Rr a ts := by simp [runC, h]
/-- The variable of a word. -/
def Box4 (w : World) (b : Nat) (x0 x1 x2 x3 : Value) : Prop := w.heap[b]? = some (.cells #[x0, x1, x2, x3] 107 (0, 0))
section
variable {w w' : World} {b R : Nat} {x0 x1 x2 x3 : Value}
theorem Box4.lt (h : Box4 w b x0 x1 x2 x3) : b < w.heap.size := lt_of_block h
theorem Box4.cells (h : Box4 w b x0 x1 x2 x3) : w.cell? ⟨b, 0, none⟩ = some x0 ∧ w.cell? ⟨b, 1, none⟩ = some x1 ∧ w.cell? ⟨b, 2, none⟩ = some x2 ∧ w.cell? ⟨b, 3, none⟩ = some x3 := by
  unfold Box4 at h
  refine ⟨?_, ?_, ?_, ?_⟩ <;> simp [World.cell?, h]
theorem Box4.but (hb : But R w w') (hne : b ≠ R) (h : Box4 w b x0 x1 x2 x3) : Box4 w' b x0 x1 x2 x3 := (hb.block b h.lt hne).trans h
theorem Box4.new (hn : b = w.heap.size) : Box4 (w.alloc (.cells #[x0, x1, x2, x3] 107 (0, 0))) b x0 x1 x2 x3 := by
  subst hn; exact heap_alloc_new _ _
end
/-- An expression with one kid: where the kid lies. -/
theorem ExV.kid {lo : Nat} {w : World} {k : Int} {tx ox : ByteArray} {nn p : Int} {a : Option Addr} {ln cp : Nat} {x y : Ex} (h : ExV lo w (.agg #[.int .i64 k, .string tx, .string ox, .int .i64 nn, .int .i64 p, .slice a ln cp]) x) (hk : x.kids = [y]) :
    ∃ (b off : Nat) (nk : Int) (tk ok : ByteArray) (ak : Option Addr) (lk ck : Nat), a = some ⟨b, off, none⟩ ∧ ln = 1 ∧ lo ≤ b ∧ b < w.heap.size ∧ w.cell? ⟨b, off, none⟩ = some (.int .i64 (y.kind : Int)) ∧ w.cell? ⟨b, off + 1, none⟩ = some (.string tk) ∧ w.cell? ⟨b, off + 2, none⟩ = some (.string ok) ∧ w.cell? ⟨b, off + 3, none⟩ = some (.int .i64 nk) ∧ w.cell? ⟨b, off + 4, none⟩ = some (.int .i64 (y.pl : Int)) ∧ w.cell? ⟨b, off + 5, none⟩ = some (.slice ak lk ck) ∧
      ExV lo w (.agg #[.int .i64 (y.kind : Int), .string tk, .string ok, .int .i64 nk, .int .i64 (y.pl : Int), .slice ak lk ck]) y := by
  generalize hv : Value.agg #[.int .i64 k, .string tx, .string ox, .int .i64 nn, .int .i64 p, .slice a ln cp] = v at h
  cases h with
  | leaf => simp [Ex.kids] at hk
  | node k' t' o' n' p' b off cap kids vs hlo hlt hcap hc hkk =>
    simp only [Ex.kids] at hk
    subst hk
    have h0 := hkk 0 y rfl
    obtain ⟨nk, tk, ok, ak, lk, ck, e, -⟩ := h0.form2
    have c := hc 0 (by simp)
    rw [e] at c h0
    simp only [exV, Value.agg.injEq, Array.mk.injEq, List.cons.injEq, Value.slice.injEq] at hv
    obtain ⟨-, -, -, -, -, ⟨ha, hl, -⟩, -⟩ := hv
    refine ⟨b, off, nk, tk, ok, ak, lk, ck, ha, hl, hlo, hlt, ?_, ?_, ?_, ?_, ?_, ?_, h0⟩
    · exact c 0 (by omega)
    · exact c 1 (by omega)
    · exact c 2 (by omega)
    · exact c 3 (by omega)
    · exact c 4 (by omega)
    · exact c 5 (by omega)

theorem qNot {lo c R : Nat} (h : R < lo) : ¬ (lo ≤ R ∧ R ≠ c) := fun e => by omega
theorem qAll {lo c : Nat} {w : World} (h : lo ≤ w.heap.size) (hc : c < w.heap.size) : ∀ b, w.heap.size ≤ b → lo ≤ b ∧ b ≠ c := fun b hb => ⟨by omega, by omega⟩
/-- The memory of an expression that was made ahead of the block c, as a condition. -/
theorem ExV.toQ' {lo lo' c : Nat} {w w2 : World} {v : Value} {x : Ex} (h : ExV lo w v x) (hl : lo' ≤ lo) (hc : w.heap.size ≤ c) (hk : Kept lo w w2) : ExQ (fun b => lo' ≤ b ∧ b ≠ c) w2 v x :=
  (h.toQ (q := fun b => lo' ≤ b ∧ b ≠ c ∧ lo ≤ b) (fun b h1 h2 => ⟨Nat.le_trans hl h1, by omega, h1⟩) |>.keep ⟨hk.size, fun b h1 h2 => hk.block b h1.2.2 h2⟩).imp (fun _ _ h => ⟨h.1, h.2.1⟩)

set_option maxHeartbeats 16000000 in
theorem expr_reads {Z R en f : Nat} (KE : Reads Z R en f 130 .expr) (KB : Begins Z R en f 150) (KT : GoesR Z R en f 151 testC) (KL : ReadsC Z R en f 144 letC) (KC : ReadsC Z R en f 145 choiceC) (KF : ReadsC Z R en f 146 funC) (KM : ReadsC Z R en f 147 matchC) (KS : ReadsC Z R en f 149 storeC) : ReadsC Z R en f 130 exprC := by
  intro ts O w hw hO hg
  have lz : Z ≤ w.heap.size := hw.size
  have lr : R < Z := hw.rz
  have HO := Hid.intro hO
  have HW := Hid.intro hw
  have HKE := Hid.intro KE
  have HKB := Hid.intro KB
  have HKT := Hid.intro KT
  have HKL := Hid.intro KL
  have HKC := Hid.intro KC
  have HKF := Hid.intro KF
  have HKM := Hid.intro KM
  have HKS := Hid.intro KS
  have HG0 := Hid.intro hg
  clear KE KB KT KL KC KF KM KS hw hO hg
  have F0 := fld0; have F1 := fld1; have F2 := fld2; have F3 := fld3
  have N0 := next_is (en := en) (s := [108, 101, 116]) (by decide) ts
  have N1 := next_is (en := en) (s := [105, 102]) (by decide) ts
  have N2 := next_is (en := en) (s := [102, 117, 110]) (by decide) ts
  have N3 := next_is (en := en) (s := [109, 97, 116, 99, 104]) (by decide) ts
  have N4 := next_kind (en := en) (k := 1) (by decide) ts
  have HN := Hid.intro (And.intro N0 (And.intro N1 (And.intro N2 (And.intro N3 N4))))
  clear N0 N1 N2 N3 N4
  go_enter Tryz.func130, Tryz.ntmps130
  go_wp2_with fail
  refine (peek_any Z R en ts _ (HW.out.below (by repeat (first | with_reducible exact Below.refl _ _ | with_reducible refine Below.alloc ?_ (by first | omega | (simp; done) | (simp; omega)) _ | with_reducible refine Below.drew ?_ | with_reducible refine Below.setCell ?_ (by first | (dsimp only; omega) | (simp; omega)) _ )))).mono ?_
  rintro e w1 ⟨rfl, hp1⟩
  unfold tkV
  have hb1 := But.of (R := R) hp1
  have l1 := hb1.size
  (try simp at l1)
  have HS1 : Hid (St Z R en w1 ts) := Hid.intro (St.to (HW.out.below (by repeat (first | with_reducible exact Below.refl _ _ | with_reducible refine Below.alloc ?_ (by first | omega | (simp; done) | (simp; omega)) _ | with_reducible refine Below.drew ?_ | with_reducible refine Below.setCell ?_ (by first | (dsimp only; omega) | (simp; omega)) _ ))) hp1)
  have HR1 : Hid (Box w1 (w.heap.size) (.int .i64 0) (.string ⟨#[]⟩) (.string ⟨#[]⟩) (.int .i64 0) (.int .i64 0) (.slice none 0 0)) := Hid.intro (Box.but hb1 (by first | omega | (simp; done) | (simp; omega)) (Box.new rfl))
  clear hp1
  generalize hnt : nextT en ts = t at *
  clear hnt
  obtain ⟨N0, N1, N2, N3, N4⟩ := HN.out
  clear HN
  cases c0 : (t.text == [108, 101, 116])
  rotate_left
  · have HG2 : Hid (runC en (P en f) letC ts = O) := Hid.intro (by rw [← HG0.out, exprC]; simp only [runC];  rw [if_pos (by rw [← N0, c0])])
    clear N0 N1 N2 N3 N4 HG0
    go_wp2_with fail
    refine (HKL.out _ _ _ (HS1.out.below (by repeat (first | with_reducible exact Below.refl _ _ | with_reducible refine Below.alloc ?_ (by first | omega | (simp; done) | (simp; omega)) _ | with_reducible refine Below.drew ?_ | with_reducible refine Below.setCell ?_ (by first | (dsimp only; omega) | (simp; omega)) _ ))) HO.out HG2.out).mono ?_
    rintro e w2 ⟨hb2, ⟨v2, x2, r2, rfl, hx2, hs, hG⟩ | ⟨c, p, rfl, hG⟩⟩
    rotate_left
    · exact ⟨rfl, (by repeat (first | with_reducible exact But.refl _ _ | with_reducible refine But.alloc ?_ _ | with_reducible refine But.drew ?_ | with_reducible refine But.setCell ?_ (by first | (left; dsimp only; omega) | (left; simp; omega)) _ | with_reducible refine But.trans ?_ (by assumption) | with_reducible refine But.below ?_ (by assumption))), Or.inr ⟨c, p, rfl, hG⟩⟩
    obtain ⟨nn2, tx2, ox2, a2, ln2, cp2, rfl, htx2⟩ := hx2.form2
    have HX2 := Hid.intro hx2
    have HS2 := Hid.intro hs
    have HG2 := Hid.intro hG
    clear hx2 htx2 hs hG
    have l2 := hb2.size
    (try simp at l2)
    have HR2 : Hid (Box w2 (w.heap.size) (.int .i64 0) (.string ⟨#[]⟩) (.string ⟨#[]⟩) (.int .i64 0) (.int .i64 0) (.slice none 0 0)) := Hid.intro (Box.but hb2 (by first | omega | (simp; done) | (simp; omega)) (by repeat (first | with_reducible exact HR1.out | with_reducible refine Box.drew ?_ | with_reducible refine Box.alloc _ ?_ | with_reducible refine Box.other (by first | (dsimp only; omega) | (simp; omega)) ?_)))
    clear HR1
    obtain ⟨z0, z1, z2, z3, z4, z5⟩ := HR2.out.cells
    obtain ⟨zf0, zf1, zf2, zf3, zf4, zf5⟩ := HR2.out.frees
    have zlt := HR2.out.lt
    go_wp2
    refine bodyPost_ret (v := .agg #[.int .i64 (x2.kind : Int), .string tx2, .string ox2, .int .i64 nn2, .int .i64 (x2.pl : Int), .slice a2 ln2 cp2]) (by simp [results, Tryz.results130, go_sem, *]) rfl ⟨(by repeat (first | with_reducible exact But.refl _ _ | with_reducible refine But.alloc ?_ _ | with_reducible refine But.drew ?_ | with_reducible refine But.setCell ?_ (by first | (left; dsimp only; omega) | (left; simp; omega)) _ | with_reducible refine But.trans ?_ (by assumption) | with_reducible refine But.below ?_ (by assumption))), Or.inl ⟨_, _, _, rfl, ((HX2.out.keep (by repeat (first | with_reducible exact Kept.refl _ _ | with_reducible refine Kept.alloc ?_ _ | with_reducible refine Kept.drew ?_ | with_reducible refine Kept.setCell ?_ (by first | (left; dsimp only; omega) | (right; dsimp only; omega) | (left; simp; omega) | (right; simp; omega)) _ | with_reducible refine Kept.but ?_ (by assumption) (by first | omega | (simp; omega)) | with_reducible refine Kept.below ?_ (by assumption)))).low (by first | omega | (simp; done) | (simp; omega))), (HS2.out.below (by repeat (first | with_reducible exact Below.refl _ _ | with_reducible refine Below.alloc ?_ (by first | omega | (simp; done) | (simp; omega)) _ | with_reducible refine Below.drew ?_ | with_reducible refine Below.setCell ?_ (by first | (dsimp only; omega) | (simp; omega)) _ ))), HG2.out⟩⟩
  cases c1 : (t.text == [105, 102])
  rotate_left
  · have HG2 : Hid (runC en (P en f) choiceC ts = O) := Hid.intro (by rw [← HG0.out, exprC]; simp only [runC]; rw [if_neg (by rw [← N0, c0]; decide)]; rw [if_pos (by rw [← N1, c1])])
    clear N0 N1 N2 N3 N4 HG0
    go_wp2_with fail
    refine (HKC.out _ _ _ (HS1.out.below (by repeat (first | with_reducible exact Below.refl _ _ | with_reducible refine Below.alloc ?_ (by first | omega | (simp; done) | (simp; omega)) _ | with_reducible refine Below.drew ?_ | with_reducible refine Below.setCell ?_ (by first | (dsimp only; omega) | (simp; omega)) _ ))) HO.out HG2.out).mono ?_
    rintro e w3 ⟨hb3, ⟨v3, x3, r3, rfl, hx3, hs, hG⟩ | ⟨c, p, rfl, hG⟩⟩
    rotate_left
    · exact ⟨rfl, (by repeat (first | with_reducible exact But.refl _ _ | with_reducible refine But.alloc ?_ _ | with_reducible refine But.drew ?_ | with_reducible refine But.setCell ?_ (by first | (left; dsimp only; omega) | (left; simp; omega)) _ | with_reducible refine But.trans ?_ (by assumption) | with_reducible refine But.below ?_ (by assumption))), Or.inr ⟨c, p, rfl, hG⟩⟩
    obtain ⟨nn3, tx3, ox3, a3, ln3, cp3, rfl, htx3⟩ := hx3.form2
    have HX3 := Hid.intro hx3
    have HS3 := Hid.intro hs
    have HG3 := Hid.intro hG
    clear hx3 htx3 hs hG
    have l3 := hb3.size
    (try simp at l3)
    have HR3 : Hid (Box w3 (w.heap.size) (.int .i64 0) (.string ⟨#[]⟩) (.string ⟨#[]⟩) (.int .i64 0) (.int .i64 0) (.slice none 0 0)) := Hid.intro (Box.but hb3 (by first | omega | (simp; done) | (simp; omega)) (by repeat (first | with_reducible exact HR1.out | with_reducible refine Box.drew ?_ | with_reducible refine Box.alloc _ ?_ | with_reducible refine Box.other (by first | (dsimp only; omega) | (simp; omega)) ?_)))
    clear HR1
    obtain ⟨z0, z1, z2, z3, z4, z5⟩ := HR3.out.cells
    obtain ⟨zf0, zf1, zf2, zf3, zf4, zf5⟩ := HR3.out.frees
    have zlt := HR3.out.lt
    go_wp2
    refine bodyPost_ret (v := .agg #[.int .i64 (x3.kind : Int), .string tx3, .string ox3, .int .i64 nn3, .int .i64 (x3.pl : Int), .slice a3 ln3 cp3]) (by simp [results, Tryz.results130, go_sem, *]) rfl ⟨(by repeat (first | with_reducible exact But.refl _ _ | with_reducible refine But.alloc ?_ _ | with_reducible refine But.drew ?_ | with_reducible refine But.setCell ?_ (by first | (left; dsimp only; omega) | (left; simp; omega)) _ | with_reducible refine But.trans ?_ (by assumption) | with_reducible refine But.below ?_ (by assumption))), Or.inl ⟨_, _, _, rfl, ((HX3.out.keep (by repeat (first | with_reducible exact Kept.refl _ _ | with_reducible refine Kept.alloc ?_ _ | with_reducible refine Kept.drew ?_ | with_reducible refine Kept.setCell ?_ (by first | (left; dsimp only; omega) | (right; dsimp only; omega) | (left; simp; omega) | (right; simp; omega)) _ | with_reducible refine Kept.but ?_ (by assumption) (by first | omega | (simp; omega)) | with_reducible refine Kept.below ?_ (by assumption)))).low (by first | omega | (simp; done) | (simp; omega))), (HS3.out.below (by repeat (first | with_reducible exact Below.refl _ _ | with_reducible refine Below.alloc ?_ (by first | omega | (simp; done) | (simp; omega)) _ | with_reducible refine Below.drew ?_ | with_reducible refine Below.setCell ?_ (by first | (dsimp only; omega) | (simp; omega)) _ ))), HG3.out⟩⟩
  cases c2 : (t.text == [102, 117, 110])
  rotate_left
  · have HG2 : Hid (runC en (P en f) funC ts = O) := Hid.intro (by rw [← HG0.out, exprC]; simp only [runC]; rw [if_neg (by rw [← N0, c0]; decide)]; rw [if_neg (by rw [← N1, c1]; decide)]; rw [if_pos (by rw [← N2, c2])])
    clear N0 N1 N2 N3 N4 HG0
    go_wp2_with fail
    refine (HKF.out _ _ _ (HS1.out.below (by repeat (first | with_reducible exact Below.refl _ _ | with_reducible refine Below.alloc ?_ (by first | omega | (simp; done) | (simp; omega)) _ | with_reducible refine Below.drew ?_ | with_reducible refine Below.setCell ?_ (by first | (dsimp only; omega) | (simp; omega)) _ ))) HO.out HG2.out).mono ?_
    rintro e w4 ⟨hb4, ⟨v4, x4, r4, rfl, hx4, hs, hG⟩ | ⟨c, p, rfl, hG⟩⟩
    rotate_left
    · exact ⟨rfl, (by repeat (first | with_reducible exact But.refl _ _ | with_reducible refine But.alloc ?_ _ | with_reducible refine But.drew ?_ | with_reducible refine But.setCell ?_ (by first | (left; dsimp only; omega) | (left; simp; omega)) _ | with_reducible refine But.trans ?_ (by assumption) | with_reducible refine But.below ?_ (by assumption))), Or.inr ⟨c, p, rfl, hG⟩⟩
    obtain ⟨nn4, tx4, ox4, a4, ln4, cp4, rfl, htx4⟩ := hx4.form2
    have HX4 := Hid.intro hx4
    have HS4 := Hid.intro hs
    have HG4 := Hid.intro hG
    clear hx4 htx4 hs hG
    have l4 := hb4.size
    (try simp at l4)
    have HR4 : Hid (Box w4 (w.heap.size) (.int .i64 0) (.string ⟨#[]⟩) (.string ⟨#[]⟩) (.int .i64 0) (.int .i64 0) (.slice none 0 0)) := Hid.intro (Box.but hb4 (by first | omega | (simp; done) | (simp; omega)) (by repeat (first | with_reducible exact HR1.out | with_reducible refine Box.drew ?_ | with_reducible refine Box.alloc _ ?_ | with_reducible refine Box.other (by first | (dsimp only; omega) | (simp; omega)) ?_)))
    clear HR1
    obtain ⟨z0, z1, z2, z3, z4, z5⟩ := HR4.out.cells
    obtain ⟨zf0, zf1, zf2, zf3, zf4, zf5⟩ := HR4.out.frees
    have zlt := HR4.out.lt
    go_wp2
    refine bodyPost_ret (v := .agg #[.int .i64 (x4.kind : Int), .string tx4, .string ox4, .int .i64 nn4, .int .i64 (x4.pl : Int), .slice a4 ln4 cp4]) (by simp [results, Tryz.results130, go_sem, *]) rfl ⟨(by repeat (first | with_reducible exact But.refl _ _ | with_reducible refine But.alloc ?_ _ | with_reducible refine But.drew ?_ | with_reducible refine But.setCell ?_ (by first | (left; dsimp only; omega) | (left; simp; omega)) _ | with_reducible refine But.trans ?_ (by assumption) | with_reducible refine But.below ?_ (by assumption))), Or.inl ⟨_, _, _, rfl, ((HX4.out.keep (by repeat (first | with_reducible exact Kept.refl _ _ | with_reducible refine Kept.alloc ?_ _ | with_reducible refine Kept.drew ?_ | with_reducible refine Kept.setCell ?_ (by first | (left; dsimp only; omega) | (right; dsimp only; omega) | (left; simp; omega) | (right; simp; omega)) _ | with_reducible refine Kept.but ?_ (by assumption) (by first | omega | (simp; omega)) | with_reducible refine Kept.below ?_ (by assumption)))).low (by first | omega | (simp; done) | (simp; omega))), (HS4.out.below (by repeat (first | with_reducible exact Below.refl _ _ | with_reducible refine Below.alloc ?_ (by first | omega | (simp; done) | (simp; omega)) _ | with_reducible refine Below.drew ?_ | with_reducible refine Below.setCell ?_ (by first | (dsimp only; omega) | (simp; omega)) _ ))), HG4.out⟩⟩
  cases c3 : (t.text == [109, 97, 116, 99, 104])
  rotate_left
  · have HG2 : Hid (runC en (P en f) matchC ts = O) := Hid.intro (by rw [← HG0.out, exprC]; simp only [runC]; rw [if_neg (by rw [← N0, c0]; decide)]; rw [if_neg (by rw [← N1, c1]; decide)]; rw [if_neg (by rw [← N2, c2]; decide)]; rw [if_pos (by rw [← N3, c3])])
    clear N0 N1 N2 N3 N4 HG0
    go_wp2_with fail
    refine (HKM.out _ _ _ (HS1.out.below (by repeat (first | with_reducible exact Below.refl _ _ | with_reducible refine Below.alloc ?_ (by first | omega | (simp; done) | (simp; omega)) _ | with_reducible refine Below.drew ?_ | with_reducible refine Below.setCell ?_ (by first | (dsimp only; omega) | (simp; omega)) _ ))) HO.out HG2.out).mono ?_
    rintro e w5 ⟨hb5, ⟨v5, x5, r5, rfl, hx5, hs, hG⟩ | ⟨c, p, rfl, hG⟩⟩
    rotate_left
    · exact ⟨rfl, (by repeat (first | with_reducible exact But.refl _ _ | with_reducible refine But.alloc ?_ _ | with_reducible refine But.drew ?_ | with_reducible refine But.setCell ?_ (by first | (left; dsimp only; omega) | (left; simp; omega)) _ | with_reducible refine But.trans ?_ (by assumption) | with_reducible refine But.below ?_ (by assumption))), Or.inr ⟨c, p, rfl, hG⟩⟩
    obtain ⟨nn5, tx5, ox5, a5, ln5, cp5, rfl, htx5⟩ := hx5.form2
    have HX5 := Hid.intro hx5
    have HS5 := Hid.intro hs
    have HG5 := Hid.intro hG
    clear hx5 htx5 hs hG
    have l5 := hb5.size
    (try simp at l5)
    have HR5 : Hid (Box w5 (w.heap.size) (.int .i64 0) (.string ⟨#[]⟩) (.string ⟨#[]⟩) (.int .i64 0) (.int .i64 0) (.slice none 0 0)) := Hid.intro (Box.but hb5 (by first | omega | (simp; done) | (simp; omega)) (by repeat (first | with_reducible exact HR1.out | with_reducible refine Box.drew ?_ | with_reducible refine Box.alloc _ ?_ | with_reducible refine Box.other (by first | (dsimp only; omega) | (simp; omega)) ?_)))
    clear HR1
    obtain ⟨z0, z1, z2, z3, z4, z5⟩ := HR5.out.cells
    obtain ⟨zf0, zf1, zf2, zf3, zf4, zf5⟩ := HR5.out.frees
    have zlt := HR5.out.lt
    go_wp2
    refine bodyPost_ret (v := .agg #[.int .i64 (x5.kind : Int), .string tx5, .string ox5, .int .i64 nn5, .int .i64 (x5.pl : Int), .slice a5 ln5 cp5]) (by simp [results, Tryz.results130, go_sem, *]) rfl ⟨(by repeat (first | with_reducible exact But.refl _ _ | with_reducible refine But.alloc ?_ _ | with_reducible refine But.drew ?_ | with_reducible refine But.setCell ?_ (by first | (left; dsimp only; omega) | (left; simp; omega)) _ | with_reducible refine But.trans ?_ (by assumption) | with_reducible refine But.below ?_ (by assumption))), Or.inl ⟨_, _, _, rfl, ((HX5.out.keep (by repeat (first | with_reducible exact Kept.refl _ _ | with_reducible refine Kept.alloc ?_ _ | with_reducible refine Kept.drew ?_ | with_reducible refine Kept.setCell ?_ (by first | (left; dsimp only; omega) | (right; dsimp only; omega) | (left; simp; omega) | (right; simp; omega)) _ | with_reducible refine Kept.but ?_ (by assumption) (by first | omega | (simp; omega)) | with_reducible refine Kept.below ?_ (by assumption)))).low (by first | omega | (simp; done) | (simp; omega))), (HS5.out.below (by repeat (first | with_reducible exact Below.refl _ _ | with_reducible refine Below.alloc ?_ (by first | omega | (simp; done) | (simp; omega)) _ | with_reducible refine Below.drew ?_ | with_reducible refine Below.setCell ?_ (by first | (dsimp only; omega) | (simp; omega)) _ ))), HG5.out⟩⟩
  have HG1 : Hid (runC en (P en f) (.see (isK 1) (.see2 (isT [58, 61]) storeT (unitK fun q u => if u.kind = 12 then mayC [60, 45] (.call .expr fun g => .ret (.mk 13 u.text [] 0 q [u.kid0, g])) (testC q u) else testC q u)) (unitK fun q u => testC q u)) ts = O) := Hid.intro (by have h := HG0.out; rw [exprC, see_no (N0.symm.trans c0), see_no (N1.symm.trans c1), see_no (N2.symm.trans c2), see_no (N3.symm.trans c3)] at h; exact h)
  clear N0 N1 N2 N3 HG0
  cases ck : hd (isK 1) ts
  · have hk2 : ((t.kind : Int) == 1) = false := by have := N4.trans ck; rw [beq_eq_false_iff_ne] at this ⊢; omega
    have HG2 : Hid (thenO en f (fun u => testC (place en ts) u) (P en f .unit ts) = O) := Hid.intro (by rw [← HG1.out]; simp only [runC]; rw [if_neg (by rw [ck]; decide)]; exact (run_unitK (k := fun q u => testC q u)).symm)
    clear N4 ck HG1
    have HNE := Hid.intro (show P en f .unit ts ≠ .out from then_out (f := f) (by rw [HG2.out]; exact HO.out))
    go_wp2_with fail
    refine (HKB.out ts _ (HS1.out.below (by repeat (first | with_reducible exact Below.refl _ _ | with_reducible refine Below.alloc ?_ (by first | omega | (simp; done) | (simp; omega)) _ | with_reducible refine Below.drew ?_ | with_reducible refine Below.setCell ?_ (by first | (dsimp only; omega) | (simp; omega)) _ ))) HNE.out).mono ?_
    rintro e w6 ⟨hb6, ⟨v6, x6, r6, rfl, hx6, hs, hP⟩ | ⟨c, p, rfl, hG⟩⟩
    rotate_left
    · exact ⟨rfl, (by repeat (first | with_reducible exact But.refl _ _ | with_reducible refine But.alloc ?_ _ | with_reducible refine But.drew ?_ | with_reducible refine But.setCell ?_ (by first | (left; dsimp only; omega) | (left; simp; omega)) _ | with_reducible refine But.trans ?_ (by assumption) | with_reducible refine But.below ?_ (by assumption))), Or.inr ⟨c, p, rfl, by rw [← HG2.out]; exact gone_then hG⟩⟩
    obtain ⟨nn6, tx6, ox6, a6, ln6, cp6, rfl, htx6⟩ := hx6.form2
    have HX6 := Hid.intro hx6
    have HS6 := Hid.intro hs
    have HP6 := Hid.intro hP
    have HT6 := Hid.intro htx6
    clear hx6 htx6 hs hP HNE
    have l6 := hb6.size
    (try simp at l6)
    have HR6 : Hid (Box w6 (w.heap.size) (.int .i64 0) (.string ⟨#[]⟩) (.string ⟨#[]⟩) (.int .i64 0) (.int .i64 0) (.slice none 0 0)) := Hid.intro (Box.but hb6 (by first | omega | (simp; done) | (simp; omega)) (by repeat (first | with_reducible exact HR1.out | with_reducible refine Box.drew ?_ | with_reducible refine Box.alloc _ ?_ | with_reducible refine Box.other (by first | (dsimp only; omega) | (simp; omega)) ?_)))
    clear HR1
    have HG3 : Hid (runC en (P en f) (testC (place en ts) x6) r6 = O) := (by show _ = _; rw [← HG2.out, HP6.out]; rfl)
    clear HG2 HP6
    have HU6 : Hid (Box4 w6 w1.heap.size (.int .i64 (t.kind : Int)) (.string ⟨t.text.toArray⟩) (.int .i64 (t.val : Int)) (.int .i64 (t.pos : Int))) := Hid.intro (Box4.but hb6 (by first | omega | (simp; done) | (simp; omega)) (Box4.new rfl))
    obtain ⟨u0, u1, u2, u3⟩ := HU6.out.cells
    have lu := HU6.out.lt
    go_wp2_with fail
    refine (HKT.out (place en ts) _ x6 (fun b => w.heap.size + 1 ≤ b ∧ b ≠ w6.heap.size) r6 _ _ (HS6.out.below (by repeat (first | with_reducible exact Below.refl _ _ | with_reducible refine Below.alloc ?_ (by first | omega | (simp; done) | (simp; omega)) _ | with_reducible refine Below.drew ?_ | with_reducible refine Below.setCell ?_ (by first | (dsimp only; omega) | (simp; omega)) _ ))) (qAll (by first | omega | (simp; done) | (simp; omega)) (by first | omega | (simp; done) | (simp; omega))) (qNot (by first | omega | (simp; done) | (simp; omega))) (HX6.out.toQ' (by first | omega | (simp; done) | (simp; omega)) (by first | omega | (simp; done) | (simp; omega)) (by repeat (first | with_reducible exact Kept.refl _ _ | with_reducible refine Kept.alloc ?_ _ | with_reducible refine Kept.drew ?_ | with_reducible refine Kept.setCell ?_ (by first | (left; dsimp only; omega) | (right; dsimp only; omega) | (left; simp; omega) | (right; simp; omega)) _ | with_reducible refine Kept.but ?_ (by assumption) (by first | omega | (simp; omega)) | with_reducible refine Kept.below ?_ (by assumption)))) HO.out HG3.out).mono ?_
    rintro e w8 ⟨hb8, ⟨v8, x8, r8, rfl, hx8, hs, hG⟩ | ⟨c, p, rfl, hG⟩⟩
    rotate_left
    · exact ⟨rfl, (by repeat (first | with_reducible exact But.refl _ _ | with_reducible refine But.alloc ?_ _ | with_reducible refine But.drew ?_ | with_reducible refine But.setCell ?_ (by first | (left; dsimp only; omega) | (left; simp; omega)) _ | with_reducible refine But.trans ?_ (by assumption) | with_reducible refine But.below ?_ (by assumption))), Or.inr ⟨c, p, rfl, hG⟩⟩
    obtain ⟨nn8, tx8, ox8, a8, ln8, cp8, rfl, htx8⟩ := hx8.form2
    have HX8 := Hid.intro (hx8.toV (lo := w.heap.size + 1) (fun b h => h.1))
    have HS8 := Hid.intro hs
    have HG8 := Hid.intro hG
    clear hx8 htx8 hs hG
    have l8 := hb8.size
    (try simp at l8)
    have HR8 : Hid (Box w8 (w.heap.size) (.int .i64 0) (.string ⟨#[]⟩) (.string ⟨#[]⟩) (.int .i64 0) (.int .i64 0) (.slice none 0 0)) := Hid.intro (Box.but hb8 (by first | omega | (simp; done) | (simp; omega)) (by repeat (first | with_reducible exact HR6.out | with_reducible refine Box.drew ?_ | with_reducible refine Box.alloc _ ?_ | with_reducible refine Box.other (by first | (dsimp only; omega) | (simp; omega)) ?_)))
    clear HR6
    obtain ⟨z0, z1, z2, z3, z4, z5⟩ := HR8.out.cells
    obtain ⟨zf0, zf1, zf2, zf3, zf4, zf5⟩ := HR8.out.frees
    have zlt := HR8.out.lt
    go_wp2
    refine bodyPost_ret (v := .agg #[.int .i64 (x8.kind : Int), .string tx8, .string ox8, .int .i64 nn8, .int .i64 (x8.pl : Int), .slice a8 ln8 cp8]) (by simp [results, Tryz.results130, go_sem, *]) rfl ⟨(by repeat (first | with_reducible exact But.refl _ _ | with_reducible refine But.alloc ?_ _ | with_reducible refine But.drew ?_ | with_reducible refine But.setCell ?_ (by first | (left; dsimp only; omega) | (left; simp; omega)) _ | with_reducible refine But.trans ?_ (by assumption) | with_reducible refine But.below ?_ (by assumption))), Or.inl ⟨_, _, _, rfl, ((HX8.out.keep (by repeat (first | with_reducible exact Kept.refl _ _ | with_reducible refine Kept.alloc ?_ _ | with_reducible refine Kept.drew ?_ | with_reducible refine Kept.setCell ?_ (by first | (left; dsimp only; omega) | (right; dsimp only; omega) | (left; simp; omega) | (right; simp; omega)) _ | with_reducible refine Kept.but ?_ (by assumption) (by first | omega | (simp; omega)) | with_reducible refine Kept.below ?_ (by assumption)))).low (by first | omega | (simp; done) | (simp; omega))), (HS8.out.below (by repeat (first | with_reducible exact Below.refl _ _ | with_reducible refine Below.alloc ?_ (by first | omega | (simp; done) | (simp; omega)) _ | with_reducible refine Below.drew ?_ | with_reducible refine Below.setCell ?_ (by first | (dsimp only; omega) | (simp; omega)) _ ))), HG8.out⟩⟩
  have hk2 : ((t.kind : Int) == 1) = true := by have := N4.trans ck; rw [beq_iff_eq] at this ⊢; omega
  have HT4 : Hid (Box4 (w1.alloc (.cells #[.int .i64 (t.kind : Int), .string ⟨t.text.toArray⟩, .int .i64 (t.val : Int), .int .i64 (t.pos : Int)] 107 (0, 0))) w1.heap.size (.int .i64 (t.kind : Int)) (.string ⟨t.text.toArray⟩) (.int .i64 (t.val : Int)) (.int .i64 (t.pos : Int))) := Hid.intro (Box4.new rfl)
  clear N4
  go_wp2_with fail
  refine (seesSecond_any Z R en ts ⟨#[58, 61]⟩ _ (HS1.out.below (by repeat (first | with_reducible exact Below.refl _ _ | with_reducible refine Below.alloc ?_ (by first | omega | (simp; done) | (simp; omega)) _ | with_reducible refine Below.drew ?_ | with_reducible refine Below.setCell ?_ (by first | (dsimp only; omega) | (simp; omega)) _ )))).mono ?_
  rintro e w9 ⟨rfl, hp9⟩
  have hb9 := But.of (R := R) hp9
  have l9 := hb9.size
  (try simp at l9)
  have HR9 : Hid (Box w9 (w.heap.size) (.int .i64 0) (.string ⟨#[]⟩) (.string ⟨#[]⟩) (.int .i64 0) (.int .i64 0) (.slice none 0 0)) := Hid.intro (Box.but hb9 (by first | omega | (simp; done) | (simp; omega)) (by repeat (first | with_reducible exact HR1.out | with_reducible refine Box.drew ?_ | with_reducible refine Box.alloc _ ?_ | with_reducible refine Box.other (by first | (dsimp only; omega) | (simp; omega)) ?_)))
  clear HR1
  have HT9 : Hid (Box4 w9 w1.heap.size (.int .i64 (t.kind : Int)) (.string ⟨t.text.toArray⟩) (.int .i64 (t.val : Int)) (.int .i64 (t.pos : Int))) := Hid.intro (Box4.but hb9 (by first | omega | (simp; done) | (simp; omega)) HT4.out)
  have HS9 : Hid (St Z R en w9 ts) := Hid.intro (St.to (HS1.out.below (by repeat (first | with_reducible exact Below.refl _ _ | with_reducible refine Below.alloc ?_ (by first | omega | (simp; done) | (simp; omega)) _ | with_reducible refine Below.drew ?_ | with_reducible refine Below.setCell ?_ (by first | (dsimp only; omega) | (simp; omega)) _ ))) hp9)
  clear hp9 HT4
  rw [show (⟨#[58, 61]⟩ : ByteArray).data.toList = [58, 61] from rfl]
  cases c5 : hd (isT [58, 61]) ts.tail
  rotate_left
  · have HG2 : Hid (runC en (P en f) storeC ts = O) := Hid.intro (by have h := HG1.out; rw [see_yes ck, see2_yes c5, ← store_eq ck] at h; exact h)
    clear ck c5 HG1
    go_wp2_with fail
    refine (HKS.out _ _ _ (HS9.out.below (by repeat (first | with_reducible exact Below.refl _ _ | with_reducible refine Below.alloc ?_ (by first | omega | (simp; done) | (simp; omega)) _ | with_reducible refine Below.drew ?_ | with_reducible refine Below.setCell ?_ (by first | (dsimp only; omega) | (simp; omega)) _ ))) HO.out HG2.out).mono ?_
    rintro e w10 ⟨hb10, ⟨v10, x10, r10, rfl, hx10, hs, hG⟩ | ⟨c, p, rfl, hG⟩⟩
    rotate_left
    · exact ⟨rfl, (by repeat (first | with_reducible exact But.refl _ _ | with_reducible refine But.alloc ?_ _ | with_reducible refine But.drew ?_ | with_reducible refine But.setCell ?_ (by first | (left; dsimp only; omega) | (left; simp; omega)) _ | with_reducible refine But.trans ?_ (by assumption) | with_reducible refine But.below ?_ (by assumption))), Or.inr ⟨c, p, rfl, hG⟩⟩
    obtain ⟨nn10, tx10, ox10, a10, ln10, cp10, rfl, htx10⟩ := hx10.form2
    have HX10 := Hid.intro hx10
    have HS10 := Hid.intro hs
    have HG10 := Hid.intro hG
    clear hx10 htx10 hs hG
    have l10 := hb10.size
    (try simp at l10)
    have HR10 : Hid (Box w10 (w.heap.size) (.int .i64 0) (.string ⟨#[]⟩) (.string ⟨#[]⟩) (.int .i64 0) (.int .i64 0) (.slice none 0 0)) := Hid.intro (Box.but hb10 (by first | omega | (simp; done) | (simp; omega)) (by repeat (first | with_reducible exact HR9.out | with_reducible refine Box.drew ?_ | with_reducible refine Box.alloc _ ?_ | with_reducible refine Box.other (by first | (dsimp only; omega) | (simp; omega)) ?_)))
    clear HR9
    obtain ⟨z0, z1, z2, z3, z4, z5⟩ := HR10.out.cells
    obtain ⟨zf0, zf1, zf2, zf3, zf4, zf5⟩ := HR10.out.frees
    have zlt := HR10.out.lt
    go_wp2
    refine bodyPost_ret (v := .agg #[.int .i64 (x10.kind : Int), .string tx10, .string ox10, .int .i64 nn10, .int .i64 (x10.pl : Int), .slice a10 ln10 cp10]) (by simp [results, Tryz.results130, go_sem, *]) rfl ⟨(by repeat (first | with_reducible exact But.refl _ _ | with_reducible refine But.alloc ?_ _ | with_reducible refine But.drew ?_ | with_reducible refine But.setCell ?_ (by first | (left; dsimp only; omega) | (left; simp; omega)) _ | with_reducible refine But.trans ?_ (by assumption) | with_reducible refine But.below ?_ (by assumption))), Or.inl ⟨_, _, _, rfl, ((HX10.out.keep (by repeat (first | with_reducible exact Kept.refl _ _ | with_reducible refine Kept.alloc ?_ _ | with_reducible refine Kept.drew ?_ | with_reducible refine Kept.setCell ?_ (by first | (left; dsimp only; omega) | (right; dsimp only; omega) | (left; simp; omega) | (right; simp; omega)) _ | with_reducible refine Kept.but ?_ (by assumption) (by first | omega | (simp; omega)) | with_reducible refine Kept.below ?_ (by assumption)))).low (by first | omega | (simp; done) | (simp; omega))), (HS10.out.below (by repeat (first | with_reducible exact Below.refl _ _ | with_reducible refine Below.alloc ?_ (by first | omega | (simp; done) | (simp; omega)) _ | with_reducible refine Below.drew ?_ | with_reducible refine Below.setCell ?_ (by first | (dsimp only; omega) | (simp; omega)) _ ))), HG10.out⟩⟩
  have HG2 : Hid (thenO en f (fun u => if u.kind = 12 then mayC [60, 45] (.call .expr fun g => .ret (.mk 13 u.text [] 0 (place en ts) [u.kid0, g])) (testC (place en ts) u) else testC (place en ts) u) (P en f .unit ts) = O) := Hid.intro (by have h := HG1.out; rw [see_yes ck, see2_no c5, run_unitK] at h; exact h)
  clear ck c5 HG1
  have HNE := Hid.intro (show P en f .unit ts ≠ .out from then_out (f := f) (by rw [HG2.out]; exact HO.out))
  go_wp2_with fail
  refine (HKB.out ts _ (HS9.out.below (by repeat (first | with_reducible exact Below.refl _ _ | with_reducible refine Below.alloc ?_ (by first | omega | (simp; done) | (simp; omega)) _ | with_reducible refine Below.drew ?_ | with_reducible refine Below.setCell ?_ (by first | (dsimp only; omega) | (simp; omega)) _ ))) HNE.out).mono ?_
  rintro e w11 ⟨hb11, ⟨v11, x11, r11, rfl, hx11, hs, hP⟩ | ⟨c, p, rfl, hG⟩⟩
  rotate_left
  · exact ⟨rfl, (by repeat (first | with_reducible exact But.refl _ _ | with_reducible refine But.alloc ?_ _ | with_reducible refine But.drew ?_ | with_reducible refine But.setCell ?_ (by first | (left; dsimp only; omega) | (left; simp; omega)) _ | with_reducible refine But.trans ?_ (by assumption) | with_reducible refine But.below ?_ (by assumption))), Or.inr ⟨c, p, rfl, by rw [← HG2.out]; exact gone_then hG⟩⟩
  obtain ⟨nn11, tx11, ox11, a11, ln11, cp11, rfl, htx11⟩ := hx11.form2
  have HX11 := Hid.intro hx11
  have HS11 := Hid.intro hs
  have HP11 := Hid.intro hP
  have HT11 := Hid.intro htx11
  clear hx11 htx11 hs hP HNE
  have l11 := hb11.size
  (try simp at l11)
  have HR11 : Hid (Box w11 (w.heap.size) (.int .i64 0) (.string ⟨#[]⟩) (.string ⟨#[]⟩) (.int .i64 0) (.int .i64 0) (.slice none 0 0)) := Hid.intro (Box.but hb11 (by first | omega | (simp; done) | (simp; omega)) (by repeat (first | with_reducible exact HR9.out | with_reducible refine Box.drew ?_ | with_reducible refine Box.alloc _ ?_ | with_reducible refine Box.other (by first | (dsimp only; omega) | (simp; omega)) ?_)))
  clear HR9
  have HU11 : Hid (Box4 w11 w1.heap.size (.int .i64 (t.kind : Int)) (.string ⟨t.text.toArray⟩) (.int .i64 (t.val : Int)) (.int .i64 (t.pos : Int))) := Hid.intro (Box4.but hb11 (by first | omega | (simp; done) | (simp; omega)) HT9.out)
  clear HT9
  have HG3 : Hid (runC en (P en f) ((fun u => if u.kind = 12 then mayC [60, 45] (.call .expr fun g => .ret (.mk 13 u.text [] 0 (place en ts) [u.kid0, g])) (testC (place en ts) u) else testC (place en ts) u) x11) r11 = O) := (by show _ = _; rw [← HG2.out, HP11.out]; rfl)
  obtain ⟨u0, u1, u2, u3⟩ := HU11.out.cells
  clear HG2
  have lu := HU11.out.lt
  by_cases ca : x11.kind = 12
  rotate_left
  · have ca2 : ((x11.kind : Int) == 12) = false := by rw [beq_eq_false_iff_ne]; omega
    have HG4 : Hid (runC en (P en f) (testC (place en ts) x11) r11 = O) := (by have h := HG3.out; simp only [] at h; rw [if_neg ca] at h; exact h)
    clear HG3 ca HP11
    go_wp2_with fail
    refine (HKT.out (place en ts) _ x11 (fun b => w.heap.size + 1 ≤ b ∧ b ≠ w11.heap.size) r11 _ _ (HS11.out.below (by repeat (first | with_reducible exact Below.refl _ _ | with_reducible refine Below.alloc ?_ (by first | omega | (simp; done) | (simp; omega)) _ | with_reducible refine Below.drew ?_ | with_reducible refine Below.setCell ?_ (by first | (dsimp only; omega) | (simp; omega)) _ ))) (qAll (by first | omega | (simp; done) | (simp; omega)) (by first | omega | (simp; done) | (simp; omega))) (qNot (by first | omega | (simp; done) | (simp; omega))) (HX11.out.toQ' (by first | omega | (simp; done) | (simp; omega)) (by first | omega | (simp; done) | (simp; omega)) (by repeat (first | with_reducible exact Kept.refl _ _ | with_reducible refine Kept.alloc ?_ _ | with_reducible refine Kept.drew ?_ | with_reducible refine Kept.setCell ?_ (by first | (left; dsimp only; omega) | (right; dsimp only; omega) | (left; simp; omega) | (right; simp; omega)) _ | with_reducible refine Kept.but ?_ (by assumption) (by first | omega | (simp; omega)) | with_reducible refine Kept.below ?_ (by assumption)))) HO.out HG4.out).mono ?_
    rintro e w12 ⟨hb12, ⟨v12, x12, r12, rfl, hx12, hs, hG⟩ | ⟨c, p, rfl, hG⟩⟩
    rotate_left
    · exact ⟨rfl, (by repeat (first | with_reducible exact But.refl _ _ | with_reducible refine But.alloc ?_ _ | with_reducible refine But.drew ?_ | with_reducible refine But.setCell ?_ (by first | (left; dsimp only; omega) | (left; simp; omega)) _ | with_reducible refine But.trans ?_ (by assumption) | with_reducible refine But.below ?_ (by assumption))), Or.inr ⟨c, p, rfl, hG⟩⟩
    obtain ⟨nn12, tx12, ox12, a12, ln12, cp12, rfl, htx12⟩ := hx12.form2
    have HX12 := Hid.intro (hx12.toV (lo := w.heap.size + 1) (fun b h => h.1))
    have HS12 := Hid.intro hs
    have HG12 := Hid.intro hG
    clear hx12 htx12 hs hG
    have l12 := hb12.size
    (try simp at l12)
    have HR12 : Hid (Box w12 (w.heap.size) (.int .i64 0) (.string ⟨#[]⟩) (.string ⟨#[]⟩) (.int .i64 0) (.int .i64 0) (.slice none 0 0)) := Hid.intro (Box.but hb12 (by first | omega | (simp; done) | (simp; omega)) (by repeat (first | with_reducible exact HR11.out | with_reducible refine Box.drew ?_ | with_reducible refine Box.alloc _ ?_ | with_reducible refine Box.other (by first | (dsimp only; omega) | (simp; omega)) ?_)))
    clear HR11
    obtain ⟨z0, z1, z2, z3, z4, z5⟩ := HR12.out.cells
    obtain ⟨zf0, zf1, zf2, zf3, zf4, zf5⟩ := HR12.out.frees
    have zlt := HR12.out.lt
    go_wp2
    refine bodyPost_ret (v := .agg #[.int .i64 (x12.kind : Int), .string tx12, .string ox12, .int .i64 nn12, .int .i64 (x12.pl : Int), .slice a12 ln12 cp12]) (by simp [results, Tryz.results130, go_sem, *]) rfl ⟨(by repeat (first | with_reducible exact But.refl _ _ | with_reducible refine But.alloc ?_ _ | with_reducible refine But.drew ?_ | with_reducible refine But.setCell ?_ (by first | (left; dsimp only; omega) | (left; simp; omega)) _ | with_reducible refine But.trans ?_ (by assumption) | with_reducible refine But.below ?_ (by assumption))), Or.inl ⟨_, _, _, rfl, ((HX12.out.keep (by repeat (first | with_reducible exact Kept.refl _ _ | with_reducible refine Kept.alloc ?_ _ | with_reducible refine Kept.drew ?_ | with_reducible refine Kept.setCell ?_ (by first | (left; dsimp only; omega) | (right; dsimp only; omega) | (left; simp; omega) | (right; simp; omega)) _ | with_reducible refine Kept.but ?_ (by assumption) (by first | omega | (simp; omega)) | with_reducible refine Kept.below ?_ (by assumption)))).low (by first | omega | (simp; done) | (simp; omega))), (HS12.out.below (by repeat (first | with_reducible exact Below.refl _ _ | with_reducible refine Below.alloc ?_ (by first | omega | (simp; done) | (simp; omega)) _ | with_reducible refine Below.drew ?_ | with_reducible refine Below.setCell ?_ (by first | (dsimp only; omega) | (simp; omega)) _ ))), HG12.out⟩⟩
  have ca2 : ((x11.kind : Int) == 12) = true := by rw [beq_iff_eq]; omega
  have HG4 : Hid (runC en (P en f) (mayC [60, 45] (.call .expr fun g => .ret (.mk 13 x11.text [] 0 (place en ts) [x11.kid0, g])) (testC (place en ts) x11)) r11 = O) := (by have h := HG3.out; simp only [] at h; rw [if_pos ca] at h; exact h)
  obtain ⟨y, hy⟩ := P_kid12 en f .unit ts x11 r11 trivial HP11.out ca
  have hy0 : x11.kid0 = y := by unfold Ex.kid0; rw [hy]; rfl
  have HY0 := Hid.intro hy0
  have HKd := Hid.intro (HX11.out.kid hy)
  clear HG3 hy hy0 HP11 ca
  go_wp2_with fail
  refine (may_step ⟨#[60, 45]⟩ (by decide) _ (HS11.out.below (by repeat (first | with_reducible exact Below.refl _ _ | with_reducible refine Below.alloc ?_ (by first | omega | (simp; done) | (simp; omega)) _ | with_reducible refine Below.drew ?_ | with_reducible refine Below.setCell ?_ (by first | (dsimp only; omega) | (simp; omega)) _ ))) HG4.out).mono ?_
  rintro e w13 ⟨hb13, ⟨rfl, r13, hs, hG⟩ | ⟨rfl, hs, hG⟩⟩
  rotate_left
  · have l13 := hb13.size
    (try simp at l13)
    have HR13 : Hid (Box w13 (w.heap.size) (.int .i64 0) (.string ⟨#[]⟩) (.string ⟨#[]⟩) (.int .i64 0) (.int .i64 0) (.slice none 0 0)) := Hid.intro (Box.but hb13 (by first | omega | (simp; done) | (simp; omega)) (by repeat (first | with_reducible exact HR11.out | with_reducible refine Box.drew ?_ | with_reducible refine Box.alloc _ ?_ | with_reducible refine Box.other (by first | (dsimp only; omega) | (simp; omega)) ?_)))
    clear HR11
    have HF13 : Hid (Box w13 (w11.heap.size) (.int .i64 (x11.kind : Int)) (.string tx11) (.string ox11) (.int .i64 nn11) (.int .i64 (x11.pl : Int)) (.slice a11 ln11 cp11)) := Hid.intro (Box.but hb13 (by first | omega | (simp; done) | (simp; omega)) (Box.new rfl))
    have HS13 := Hid.intro hs
    have HG13 := Hid.intro hG
    clear hs hG HG4
    clear u0 u1 u2 u3
    obtain ⟨f_0, f_1, f_2, f_3, f_4, f_5⟩ := HF13.out.cells
    obtain ⟨f_f0, f_f1, f_f2, f_f3, f_f4, f_f5⟩ := HF13.out.frees
    have f_lt := HF13.out.lt
    go_wp2_with fail
    refine (HKT.out (place en ts) _ x11 (fun b => w.heap.size + 1 ≤ b ∧ b ≠ w11.heap.size) r11 _ _ (HS13.out.below (by repeat (first | with_reducible exact Below.refl _ _ | with_reducible refine Below.alloc ?_ (by first | omega | (simp; done) | (simp; omega)) _ | with_reducible refine Below.drew ?_ | with_reducible refine Below.setCell ?_ (by first | (dsimp only; omega) | (simp; omega)) _ ))) (qAll (by first | omega | (simp; done) | (simp; omega)) (by first | omega | (simp; done) | (simp; omega))) (qNot (by first | omega | (simp; done) | (simp; omega))) (HX11.out.toQ' (by first | omega | (simp; done) | (simp; omega)) (by first | omega | (simp; done) | (simp; omega)) (by repeat (first | with_reducible exact Kept.refl _ _ | with_reducible refine Kept.alloc ?_ _ | with_reducible refine Kept.drew ?_ | with_reducible refine Kept.setCell ?_ (by first | (left; dsimp only; omega) | (right; dsimp only; omega) | (left; simp; omega) | (right; simp; omega)) _ | with_reducible refine Kept.but ?_ (by assumption) (by first | omega | (simp; omega)) | with_reducible refine Kept.below ?_ (by assumption)))) HO.out HG13.out).mono ?_
    rintro e w14 ⟨hb14, ⟨v14, x14, r14, rfl, hx14, hs, hG⟩ | ⟨c, p, rfl, hG⟩⟩
    rotate_left
    · exact ⟨rfl, (by repeat (first | with_reducible exact But.refl _ _ | with_reducible refine But.alloc ?_ _ | with_reducible refine But.drew ?_ | with_reducible refine But.setCell ?_ (by first | (left; dsimp only; omega) | (left; simp; omega)) _ | with_reducible refine But.trans ?_ (by assumption) | with_reducible refine But.below ?_ (by assumption))), Or.inr ⟨c, p, rfl, hG⟩⟩
    obtain ⟨nn14, tx14, ox14, a14, ln14, cp14, rfl, htx14⟩ := hx14.form2
    have HX14 := Hid.intro (hx14.toV (lo := w.heap.size + 1) (fun b h => h.1))
    have HS14 := Hid.intro hs
    have HG14 := Hid.intro hG
    clear hx14 htx14 hs hG
    have l14 := hb14.size
    (try simp at l14)
    have HR14 : Hid (Box w14 (w.heap.size) (.int .i64 0) (.string ⟨#[]⟩) (.string ⟨#[]⟩) (.int .i64 0) (.int .i64 0) (.slice none 0 0)) := Hid.intro (Box.but hb14 (by first | omega | (simp; done) | (simp; omega)) (by repeat (first | with_reducible exact HR13.out | with_reducible refine Box.drew ?_ | with_reducible refine Box.alloc _ ?_ | with_reducible refine Box.other (by first | (dsimp only; omega) | (simp; omega)) ?_)))
    have HF14 : Hid (Box w14 (w11.heap.size) (.int .i64 (x11.kind : Int)) (.string tx11) (.string ox11) (.int .i64 nn11) (.int .i64 (x11.pl : Int)) (.slice a11 ln11 cp11)) := Hid.intro (Box.but hb14 (by first | omega | (simp; done) | (simp; omega)) (by repeat (first | with_reducible exact HF13.out | with_reducible refine Box.drew ?_ | with_reducible refine Box.alloc _ ?_ | with_reducible refine Box.other (by first | (dsimp only; omega) | (simp; omega)) ?_)))
    clear HR13 HF13
    obtain ⟨z0, z1, z2, z3, z4, z5⟩ := HR14.out.cells
    obtain ⟨zf0, zf1, zf2, zf3, zf4, zf5⟩ := HR14.out.frees
    have zlt := HR14.out.lt
    go_wp2
    refine bodyPost_ret (v := .agg #[.int .i64 (x14.kind : Int), .string tx14, .string ox14, .int .i64 nn14, .int .i64 (x14.pl : Int), .slice a14 ln14 cp14]) (by simp [results, Tryz.results130, go_sem, *]) rfl ⟨(by repeat (first | with_reducible exact But.refl _ _ | with_reducible refine But.alloc ?_ _ | with_reducible refine But.drew ?_ | with_reducible refine But.setCell ?_ (by first | (left; dsimp only; omega) | (left; simp; omega)) _ | with_reducible refine But.trans ?_ (by assumption) | with_reducible refine But.below ?_ (by assumption))), Or.inl ⟨_, _, _, rfl, ((HX14.out.keep (by repeat (first | with_reducible exact Kept.refl _ _ | with_reducible refine Kept.alloc ?_ _ | with_reducible refine Kept.drew ?_ | with_reducible refine Kept.setCell ?_ (by first | (left; dsimp only; omega) | (right; dsimp only; omega) | (left; simp; omega) | (right; simp; omega)) _ | with_reducible refine Kept.but ?_ (by assumption) (by first | omega | (simp; omega)) | with_reducible refine Kept.below ?_ (by assumption)))).low (by first | omega | (simp; done) | (simp; omega))), (HS14.out.below (by repeat (first | with_reducible exact Below.refl _ _ | with_reducible refine Below.alloc ?_ (by first | omega | (simp; done) | (simp; omega)) _ | with_reducible refine Below.drew ?_ | with_reducible refine Below.setCell ?_ (by first | (dsimp only; omega) | (simp; omega)) _ ))), HG14.out⟩⟩
  have l13 := hb13.size
  (try simp at l13)
  have HR13 : Hid (Box w13 (w.heap.size) (.int .i64 0) (.string ⟨#[]⟩) (.string ⟨#[]⟩) (.int .i64 0) (.int .i64 0) (.slice none 0 0)) := Hid.intro (Box.but hb13 (by first | omega | (simp; done) | (simp; omega)) (by repeat (first | with_reducible exact HR11.out | with_reducible refine Box.drew ?_ | with_reducible refine Box.alloc _ ?_ | with_reducible refine Box.other (by first | (dsimp only; omega) | (simp; omega)) ?_)))
  clear HR11
  have HF13 : Hid (Box w13 (w11.heap.size) (.int .i64 (x11.kind : Int)) (.string tx11) (.string ox11) (.int .i64 nn11) (.int .i64 (x11.pl : Int)) (.slice a11 ln11 cp11)) := Hid.intro (Box.but hb13 (by first | omega | (simp; done) | (simp; omega)) (Box.new rfl))
  have HS13 := Hid.intro hs
  have HG13 := Hid.intro hG
  clear hs hG HG4
  clear u0 u1 u2 u3
  obtain ⟨kb, ko, nk, tk, ok, ak, lk, ck, rfl, rfl, hk1, hk2', k0, k1, k2, k3, k4, k5, hxy⟩ := HKd.out
  have HXY := Hid.intro hxy
  clear HKd hxy
  have HKB : Hid (w13.heap[kb]? = w11.heap[kb]?) := Hid.intro ((hb13.block kb (by first | omega | (simp; done) | (simp; omega)) (by first | omega | (simp; done) | (simp; omega))).trans (Below.heap_alloc _ _ _ hk2'))
  go_wp2_with fail
  refine wp_region_held_tail (S := fun w' => Box w' (w11.heap.size) (.int .i64 (x11.kind : Int)) (.string tx11) (.string ox11) (.int .i64 nn11) (.int .i64 (x11.pl : Int)) (.slice (some ⟨kb, ko, none⟩) 1 cp11) ∧ w'.heap[kb]? = w11.heap[kb]?) 10 (by kernel_rfl) (by kernel_rfl) ⟨(by repeat (first | with_reducible exact HF13.out | with_reducible refine Box.drew ?_ | with_reducible refine Box.alloc _ ?_ | with_reducible refine Box.other (by first | (dsimp only; omega) | (simp; omega)) ?_)), HKB.out⟩ (fun hHeld => ?_)
  simp only [List.take_succ_cons, List.take_zero, List.drop_succ_cons, List.drop_zero]
  refine wpAnyH_take (i := 0) (v := .pointer (some ⟨w11.heap.size, 1, none⟩)) rfl (by kernel_rfl) (by kernel_rfl) (by kernel_rfl) (fun _ _ _ h => h) (Or.inl ⟨by rfl, by intro w hS; go_simp⟩) hHeld ?_
  refine wpAnyH_take (i := 1) (v := .string tx11) rfl (by kernel_rfl) (by kernel_rfl) (by kernel_rfl) (fun _ _ _ h => h) (Or.inl ⟨by rfl, by intro w hS; obtain ⟨y0, y1, y2, y3, y4, y5⟩ := Box.cells hS.1; go_simp⟩) hHeld ?_
  refine wpAnyH_take (i := 2) (v := .int .i64 (place en ts : Nat)) rfl (by kernel_rfl) (by kernel_rfl) (by kernel_rfl) (fun _ _ _ h => h) (Or.inl ⟨by rfl, by intro w hS; go_simp⟩) hHeld ?_
  refine wpAnyH_take (i := 3) (v := .pointer (some ⟨w11.heap.size, 5, none⟩)) rfl (by kernel_rfl) (by kernel_rfl) (by kernel_rfl) (fun _ _ _ h => h) (Or.inl ⟨by rfl, by intro w hS; go_simp⟩) hHeld ?_
  refine wpAnyH_take (i := 4) (v := .slice (some ⟨kb, ko, none⟩) 1 cp11) rfl (by kernel_rfl) (by kernel_rfl) (by kernel_rfl) (fun _ _ _ h => h) (Or.inl ⟨by rfl, by intro w hS; obtain ⟨y0, y1, y2, y3, y4, y5⟩ := Box.cells hS.1; go_simp⟩) hHeld ?_
  refine wpAnyH_take (i := 5) (v := .pointer (some ⟨kb, ko, none⟩)) rfl (by kernel_rfl) (by kernel_rfl) (by kernel_rfl) (fun _ _ _ h => h) (Or.inl ⟨by rfl, by intro w hS; go_simp⟩) hHeld ?_
  refine wpAnyH_take (i := 6) (v := .agg #[.int .i64 (y.kind : Int), .string tk, .string ok, .int .i64 nk, .int .i64 (y.pl : Int), .slice ak lk ck]) rfl (by kernel_rfl) (by kernel_rfl) (by kernel_rfl) (fun _ _ _ h => h) (Or.inl ⟨by rfl, by intro w hS; have k0 := (cell_of_block hS.2).trans k0; have k1 := (cell_of_block hS.2).trans k1; have k2 := (cell_of_block hS.2).trans k2; have k3 := (cell_of_block hS.2).trans k3; have k4 := (cell_of_block hS.2).trans k4; have k5 := (cell_of_block hS.2).trans k5; go_simp⟩) hHeld ?_
  refine wpAnyH_take (i := 7) (v := .pointer (some ⟨R, 0, none⟩)) rfl (by kernel_rfl) (by kernel_rfl) (by kernel_rfl) (fun _ _ _ h => h) (Or.inl ⟨by rfl, by intro w hS; go_simp⟩) hHeld ?_
  refine wpAnyH_ready (rs := [8]) (by kernel_rfl) (by simp) ?_
  refine AllReadyH.cons rfl (fun K hK => ?_) AllReadyH.nil
  go_simp
  refine (HKE.out _ _ _ _ (HS13.out.below (by repeat (first | with_reducible exact Below.refl _ _ | with_reducible refine Below.alloc ?_ (by first | omega | (simp; done) | (simp; omega)) _ | with_reducible refine Below.drew ?_ | with_reducible refine Below.setCell ?_ (by first | (dsimp only; omega) | (simp; omega)) _ ))) HO.out HG13.out).mono ?_
  rintro e w15 ⟨hb15, ⟨v15, x15, r15, rfl, hx15, hs, hG⟩ | ⟨c, p, rfl, hG⟩⟩
  rotate_left
  · exact ⟨rfl, (by repeat (first | with_reducible exact But.refl _ _ | with_reducible refine But.alloc ?_ _ | with_reducible refine But.drew ?_ | with_reducible refine But.setCell ?_ (by first | (left; dsimp only; omega) | (left; simp; omega)) _ | with_reducible refine But.trans ?_ (by assumption) | with_reducible refine But.below ?_ (by assumption))), Or.inr ⟨c, p, rfl, hG⟩⟩
  obtain ⟨nn15, tx15, ox15, a15, ln15, cp15, rfl, htx15⟩ := hx15.form2
  have HX15 := Hid.intro hx15
  have HS15 := Hid.intro hs
  have HP15 := Hid.intro hG
  clear hx15 hs htx15 hG
  have l15 := hb15.size
  (try simp at l15)
  have HR15 : Hid (Box w15 (w.heap.size) (.int .i64 0) (.string ⟨#[]⟩) (.string ⟨#[]⟩) (.int .i64 0) (.int .i64 0) (.slice none 0 0)) := Hid.intro (Box.but hb15 (by first | omega | (simp; done) | (simp; omega)) (by repeat (first | with_reducible exact HR13.out | with_reducible refine Box.drew ?_ | with_reducible refine Box.alloc _ ?_ | with_reducible refine Box.other (by first | (dsimp only; omega) | (simp; omega)) ?_)))
  have HF15 : Hid (Box w15 (w11.heap.size) (.int .i64 (x11.kind : Int)) (.string tx11) (.string ox11) (.int .i64 nn11) (.int .i64 (x11.pl : Int)) (.slice (some ⟨kb, ko, none⟩) 1 cp11)) := Hid.intro (Box.but hb15 (by first | omega | (simp; done) | (simp; omega)) (by repeat (first | with_reducible exact HF13.out | with_reducible refine Box.drew ?_ | with_reducible refine Box.alloc _ ?_ | with_reducible refine Box.other (by first | (dsimp only; omega) | (simp; omega)) ?_)))
  clear HR13 HF13
  have HKC : Hid (w15.heap[kb]? = w11.heap[kb]?) := Hid.intro ((hb15.block kb (by first | omega | (simp; done) | (simp; omega)) (by first | omega | (simp; done) | (simp; omega))).trans HKB.out)
  refine hK.out _ _ ⟨(by repeat (first | with_reducible exact HF15.out | with_reducible refine Box.drew ?_ | with_reducible refine Box.alloc _ ?_ | with_reducible refine Box.other (by first | (dsimp only; omega) | (simp; omega)) ?_)), HKC.out⟩ (fun hHeld => ?_)
  clear hK K
  refine wpAnyH_ready (rs := [9]) (by kernel_rfl) (by simp) ?_
  refine AllReadyH.cons rfl (fun K hK => ?_) AllReadyH.nil
  go_simp
  refine hK.out _ _ ⟨(by repeat (first | with_reducible exact HF15.out | with_reducible refine Box.drew ?_ | with_reducible refine Box.alloc _ ?_ | with_reducible refine Box.other (by first | (dsimp only; omega) | (simp; omega)) ?_)), (Below.heap_alloc _ _ _ (by first | omega | (simp; done) | (simp; omega))).trans HKC.out⟩ (fun hHeld => ?_)
  clear hK K
  refine wpAnyH_done (by kernel_rfl) ?_ _
  show wpList _ _ _ _ _ _
  clear hHeld k0 k1 k2 k3 k4 k5
  obtain ⟨z0, z1, z2, z3, z4, z5⟩ := HR15.out.cells
  obtain ⟨zf0, zf1, zf2, zf3, zf4, zf5⟩ := HR15.out.frees
  have zlt := HR15.out.lt
  go_wp2
  have HTX := HT11.out
  subst HTX
  refine bodyPost_ret (v := .agg #[.int .i64 13, .string ⟨x11.text.toArray⟩, .string ⟨#[]⟩, .int .i64 0, .int .i64 (place en ts : Nat), .slice (some ⟨w15.heap.size, 0, none⟩) 2 2]) (by simp [results, Tryz.results130, go_sem, *]) rfl ⟨(by repeat (first | with_reducible exact But.refl _ _ | with_reducible refine But.alloc ?_ _ | with_reducible refine But.drew ?_ | with_reducible refine But.setCell ?_ (by first | (left; dsimp only; omega) | (left; simp; omega)) _ | with_reducible refine But.trans ?_ (by assumption) | with_reducible refine But.below ?_ (by assumption))), Or.inl ⟨_, _, _, rfl, ?_, (HS15.out.below (by repeat (first | with_reducible exact Below.refl _ _ | with_reducible refine Below.alloc ?_ (by first | omega | (simp; done) | (simp; omega)) _ | with_reducible refine Below.drew ?_ | with_reducible refine Below.setCell ?_ (by first | (dsimp only; omega) | (simp; omega)) _ ))), (by rw [← HP15.out, HY0.out]; rfl)⟩⟩
  refine ex_two (k := 13) (t := x11.text) (o := []) (n := 0) (p := place en ts) (u1 := .agg #[.int .i64 (y.kind : Int), .string tk, .string ok, .int .i64 nk, .int .i64 (y.pl : Int), .slice ak lk ck]) (u2 := .agg #[.int .i64 (x15.kind : Int), .string tx15, .string ox15, .int .i64 nn15, .int .i64 (x15.pl : Int), .slice a15 ln15 cp15]) (by first | omega | (simp; done) | (simp; omega)) (by first | omega | (simp; done) | (simp; omega)) ?_ ?_ ((HXY.out.keep (by repeat (first | with_reducible exact Kept.refl _ _ | with_reducible refine Kept.alloc ?_ _ | with_reducible refine Kept.drew ?_ | with_reducible refine Kept.setCell ?_ (by first | (left; dsimp only; omega) | (right; dsimp only; omega) | (left; simp; omega) | (right; simp; omega)) _ | with_reducible refine Kept.but ?_ (by assumption) (by first | omega | (simp; omega)) | with_reducible refine Kept.below ?_ (by assumption)))).low (by first | omega | (simp; done) | (simp; omega))) ((HX15.out.keep (by repeat (first | with_reducible exact Kept.refl _ _ | with_reducible refine Kept.alloc ?_ _ | with_reducible refine Kept.drew ?_ | with_reducible refine Kept.setCell ?_ (by first | (left; dsimp only; omega) | (right; dsimp only; omega) | (left; simp; omega) | (right; simp; omega)) _ | with_reducible refine Kept.but ?_ (by assumption) (by first | omega | (simp; omega)) | with_reducible refine Kept.below ?_ (by assumption)))).low (by first | omega | (simp; done) | (simp; omega)))
  all_goals
    refine six ?_ ?_ ?_ ?_ ?_ ?_
    all_goals first | (go_simp; done) | (go_simp; rfl)
end Go.Proofs.YtkljakeccfnakaaGreatDoor
