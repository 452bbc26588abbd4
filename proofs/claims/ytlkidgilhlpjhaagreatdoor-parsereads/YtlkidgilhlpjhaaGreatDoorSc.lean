/-
  The walk of ParseReads.
  From the contracts of the program's own functions to the rows: what the listed variables are laid with.
-/
import Derived.Test.YtlkidgilhlpjhaaGreatDoorSB
import Derived.Test.YtlkidgilhlpjhaaGreatDoorHt
import Derived.Test.YtlkidgilhlpjhaaGreatDoorHx
import Derived.Test.YtlkidgilhlpjhaaGreatDoorRT
import Derived.Test.YtlkidgilhlpjhaaGreatDoorRows
import Derived.Test.YtlkidgilhlpjhaaGreatDoorKk
import Derived.LaidMore
import Derived.Stop.Joined
import Derived.ProofKit
import Derived.SizedLaws
import Derived.ChangeSlices
import Derived.OpenShut
import Derived.Lib.SmallJoins
namespace Go.Proofs.YtlkidgilhlpjhaaGreatDoor
open Go.RowKit

set_option maxHeartbeats 4000000 in
/-- Where there are no words the fault is handed on. -/
theorem rparse_lexed (s : ByteArray) (hs : s.size <= 140737488351232) (w : World) (c p : Nat) (hl : lexT s.data.toList = .err c p) : Calls Tryz.prog 6 #[.string s] w fun e w' => e = .returned (.tuple #[zeroP, .int .i64 (c : Int), .int .i64 (p : Int)]) /\ Below w.heap.size w w' := by
 have HT : Hid (∀ W : World, Calls Tryz.prog 13 #[.string s] W fun e w' => (∃ v, e = .returned (.tuple #[v, .int .i64 (c : Int), .int .i64 (p : Int)]) /\ TokSl w' v []) /\ Below W.heap.size W w') := fun W => by
  have h := refTokens_at refC s W hs; rw [hl] at h; exact h
 have hc := lex_err hl; have c0 : ((c : Int) != 0) = true := by rw [bne_iff_ne]; omega
 have c1 : ¬ (c : Int) = 0 := by omega
 clear hl
 go_enter Tryz.func6, Tryz.ntmps6
 go_wp2_with fail; refine (HT.out _).mono ?_
 rintro e w1 ⟨⟨v, rfl, hv⟩, hb1⟩; have l1 := hb1.size; (try simp at l1); have b1 : Blk w1 w.heap.size #[.slice none 0 0, .slice none 0 0] 26 := Blk.below hb1 lta (Blk.new rfl); have b1c0 := b1.cell 0 rfl; have b1c1 := b1.cell 1 rfl; have b1f0 := b1.free 0; have b1f1 := b1.free 1; have b1lt := b1.lt; clear b1 hv; go_wp2; refine bodyPost_ret (v := .tuple #[zeroP, .int .i64 (c : Int), .int .i64 (p : Int)]) (by simp [results, Tryz.results6, go_sem, zeroP, *]) rfl ⟨rfl, ?_⟩; have hB0 : Below w.heap.size w w1 := rb2 (ba (Below.refl _ _)) hb1 lta; exact (by repeat (first | with_reducible exact hB0 | with_reducible refine Below.alloc ?_ lta _ | with_reducible refine Below.drew ?_ | with_reducible refine Below.setCell ?_ a12_ _))
theorem doms_deep (en : Nat) : ∀ (f : Nat) (ds es : List Ex) (l : List Tok) (X : Ex) (r : List Tok), P en f (.doms ds es) l = .ok X r -> (∀ x ∈ es, deepE x <= 60) -> ∃ es', X = progE ds es' /\ ∀ x ∈ es', deepE x <= 60
 | 0, _, _, _, _, _, h, _ => by cases h
 | f + 1, ds, es, l, X, r, h, he => by
  have go : ∀ (l : List Tok), runC en (P en f) (domC fun e => .call (.doms ds (es ++ [e])) .ret) l = .ok X r -> ∃ es', X = progE ds es' /\ ∀ x ∈ es', deepE x <= 60 := by
   intro l h; obtain ⟨d, q, x, e, q2, _, _, _, _, hx, h⟩ := domC_inv h; obtain ⟨Y, q3, hY, h⟩ := call_inv h
   simp only [runC, Out.ok.injEq] at h
   obtain ⟨rfl, rfl⟩ := h; refine doms_deep en f ds (es ++ [x]) q2 _ _ hY (fun z hz => ?_)
   rcases List.mem_append.1 hz with hz | hz
   ·exact he z hz
   ·rw [List.mem_singleton] at hz; rw [hz]; exact hx
  have go2 : ∀ (l : List Tok), runC en (P en f) (if es.length = 3 then .see (isT [100, 111, 109, 97, 105, 110]) (.here .lim) (domC fun e => .call (.doms ds (es ++ [e])) .ret) else domC fun e => .call (.doms ds (es ++ [e])) .ret) l = .ok X r -> ∃ es', X = progE ds es' /\ ∀ x ∈ es', deepE x <= 60 := by
   intro l h
   split at h
   ·simp only [runC] at h
    split at h
    ·cases h
    ·exact go l h
   ·exact go l h
  have h : runC en (P en f) (domsC ds es) l = .ok X r := h
  dsimp only [domsC] at h
  split at h
  ·exact go2 l h
  ·cases l with
   | nil =>
    simp only [runC, hd, Bool.false_eq_true, if_false, Out.ok.injEq] at h
    exact ⟨es, h.1.symm, he⟩
   | cons t q => exact go2 _ h
theorem decls_deep (en : Nat) : ∀ (f l : Nat) (ds : List Ex) (ts : List Tok) (X : Ex) (r : List Tok), P en f (.decls l ds) ts = .ok X r -> ∃ ds' es', X = progE ds' es' /\ ∀ x ∈ es', deepE x <= 60
 | 0, _, _, _, _, _, h => by cases h
 | f + 1, l, ds, ts, X, r, h => by
  have h : runC en (P en f) (declsC l ds) ts = .ok X r := h; unfold declsC at h
  simp only [runC] at h
  split at h
  ·split at h
   ·cases h
   ·obtain ⟨d, q, h⟩ := decl_inv h
    split at h
    ·cases h
    ·obtain ⟨Y, q3, hY, h⟩ := call_inv h
     simp only [runC, Out.ok.injEq] at h
     obtain ⟨rfl, rfl⟩ := h; exact decls_deep en f _ _ _ _ _ hY
  ·cases e : P en f (.doms ds []) ts with
   | ok Y q =>
    rw [e] at h
    simp only [Out.ok.injEq] at h
    obtain ⟨rfl, rfl⟩ := h; obtain ⟨es', h1, h2⟩ := doms_deep en f ds [] ts _ _ e (fun x hx => by simp at hx); exact ⟨ds, es', h1, h2⟩
   | no q => rw [e] at h; cases h
   | lim p => rw [e] at h; cases h
   | out => rw [e] at h; cases h
/-- What is answered is told by the text alone. -/
theorem parseA_det (l : List UInt8) : ∃ (c0 p0 : Nat) (ds es : List Ex), (∀ x ∈ es, deepE x <= 60) /\ ∀ (lo : Nat) (w : World) (v : Value) (c p : Nat), ParseA lo w v c p l -> c = c0 /\ p = p0 /\ PrV lo w v ds es := by
 unfold ParseA
 cases hl : lexT l with
 | err c p => exact ⟨c, p, [], [], fun x hx => by simp at hx, fun lo w v c' p' ⟨h1, h2, h3⟩ => ⟨h2, h3, by rw [h1]; exact zero_pr _ _⟩⟩
 | ok ts =>
  dsimp only
  cases ho : parseO l.length ts with
  | no r => exact ⟨11, place l.length r, [], [], fun x hx => by simp at hx, fun lo w v c' p' ⟨h1, h2, h3⟩ => ⟨h2, h3, by rw [h1]; exact zero_pr _ _⟩⟩
  | lim q => exact ⟨15, q, [], [], fun x hx => by simp at hx, fun lo w v c' p' ⟨h1, h2, h3⟩ => ⟨h2, h3, by rw [h1]; exact zero_pr _ _⟩⟩
  | out => exact ⟨0, 0, [], [], fun x hx => by simp at hx, fun lo w v c' p' h => h.elim⟩
  | ok X r =>
   obtain ⟨ds, es, rfl, hd⟩ := decls_deep _ _ _ _ _ _ _ ho; refine ⟨0, 0, ds, es, hd, fun lo w v c' p' ⟨h1, h2, ds', es', h3, h4⟩ => ⟨h1, h2, ?_⟩⟩; obtain ⟨rfl, rfl⟩ := progE_inj h3; exact h4
theorem same_refl (pb : Bool) (x : Ex) : SameX pb x x := by unfold SameX; split <;> rfl
theorem PrV.ex {lo : Nat} {w : World} {a b : Option Addr} {n m c d : Nat} {ds es : List Ex} (h : PrV lo w (.agg #[.slice a n c, .slice b m d]) ds es) : ExV lo w (exV 0 [] [] 0 0 (.slice b m d)) (.mk 0 [] [] 0 0 es) := by
 obtain ⟨vd, vx, e, _, h⟩ := h
 simp only [Value.agg.injEq, Array.mk.injEq, List.cons.injEq, and_true] at e
 rw [e.2]; exact h
/-- The document's own Parse. -/
theorem rparse (s : ByteArray) (w : World) (hs : s.size <= 140737488351232) : Calls Tryz.prog 6 #[.string s] w fun e w' => (∃ (v : Value) (c p : Nat), e = .returned (.tuple #[v, .int .i64 (c : Int), .int .i64 (p : Int)]) /\ ParseA w.heap.size w' v c p s.data.toList) /\ Below w.heap.size w w' := by
 cases hl : lexT s.data.toList with
 | err c p =>
  refine (rparse_lexed s hs w c p hl).mono fun e w' ⟨he, hb⟩ => ⟨⟨_, c, p, he, ?_⟩, hb⟩; unfold ParseA; rw [hl]; exact ⟨rfl, rfl, rfl⟩
 | ok ts =>
  have hP : P s.size (ts.length * 10 + 20) (.decls 0 []) ts = parseO s.data.toList.length ts := by unfold parseO; rw [Lib.size_eq]
  refine (rparse_walk s w ts (ts.length * 10 + 20) _ hs hl rfl (by rw [hP]; exact parseO_ne _ _)).mono fun e w' ⟨hb, h⟩ => ⟨?_, hb⟩; unfold PEnd at h; rw [hP, Lib.size_eq] at h; unfold ParseA; rw [hl]
  rcases h with ⟨v, ds, es, r, he, hp, ho⟩ | ⟨r, he, ho⟩ | ⟨p, he, ho⟩
  ·refine ⟨v, 0, 0, he, ?_⟩
   dsimp only; rw [ho]
   exact ⟨rfl, rfl, ds, es, rfl, hp⟩
  ·refine ⟨_, 11, _, he, ?_⟩
   dsimp only; rw [ho]
   exact ⟨rfl, rfl, rfl⟩
  ·refine ⟨_, 15, p, he, ?_⟩
   dsimp only; rw [ho]
   exact ⟨rfl, rfl, rfl⟩
set_option maxRecDepth 100000 in
set_option maxHeartbeats 16000000 in
theorem parseReads_walk (C : ParseC) (s : ByteArray) (w : World) (hs : s.size <= 140737488351232) : Calls Tryz.prog 3 #[.string s] w fun e w' => e = .returned (.bool true) /\ Below w.heap.size w w' := by
 have HC := hi_ C; obtain ⟨c0, p0, ds, es, hd, hall⟩ := parseA_det s.data.toList; have HD := hi_ hd; have HK : Hid (∀ W : World, Calls Tryz.prog 5 #[.string s] W fun e w' => (∃ v, e = .returned (.tuple #[v, .int .i64 ((c0 : Nat) : Int), .int .i64 ((p0 : Nat) : Int)]) /\ PrV W.heap.size w' v ds es) /\ Below W.heap.size W w') := fun W =>
  (C.parse s W hs).mono fun e w' ⟨⟨v, c, p, he, h⟩, hb⟩ => by
   obtain ⟨rfl, rfl, hp⟩ := hall _ _ _ _ _ h; exact ⟨⟨v, he, hp⟩, hb⟩
 have HR : Hid (∀ W : World, Calls Tryz.prog 6 #[.string s] W fun e w' => (∃ v, e = .returned (.tuple #[v, .int .i64 ((c0 : Nat) : Int), .int .i64 ((p0 : Nat) : Int)]) /\ PrV W.heap.size w' v ds es) /\ Below W.heap.size W w') := fun W =>
  (rparse s W hs).mono fun e w' ⟨⟨v, c, p, he, h⟩, hb⟩ => by
   obtain ⟨rfl, rfl, hp⟩ := hall _ _ _ _ _ h; exact ⟨⟨v, he, hp⟩, hb⟩
 clear hd hall C
 by_cases big : 10000 < s.size
 ·have bigi : (10000 : Int) < (s.size : Int) := by omega
  go_enter Tryz.func3, Tryz.ntmps3
  go_wp2_with fail; refine (awake_any HC.out _).mono ?_
  rintro e w1 ⟨rfl, hb1⟩; have l1 := hb1.size; (try simp at l1); have HB1 : Hid (Below w.heap.size w w1) := hi_ (rb2 belr hb1 lta); go_wp2_with fail
  go_ret
  exact ⟨rfl, (belh HB1.out)⟩
 ·have bigi : ¬ (10000 : Int) < (s.size : Int) := by omega
  go_enter Tryz.func3, Tryz.ntmps3
  go_wp2_with fail; refine (awake_any HC.out _).mono ?_
  rintro e w2 ⟨rfl, hb2⟩; have l2 := hb2.size; (try simp at l2); have HB2 : Hid (Below w.heap.size w w2) := hi_ (rb2 belr hb2 lta); go_wp2_with fail; refine (HK.out _).mono ?_; rintro e w3 ⟨⟨v3, rfl, hp3⟩, hb3⟩; obtain ⟨a3, c3, b3, d3, rfl⟩ := hp3.form; have HP3 := hi_ hp3; clear hp3; have l3 := hb3.size; (try simp at l3); replace HB2 := hbl w3 HB2; go_wp2_with fail; refine (HR.out _).mono ?_; rintro e w4 ⟨⟨v4, rfl, hp4⟩, hb4⟩; obtain ⟨a4, c4, b4, d4, rfl⟩ := hp4.form; have HP4 := hi_ hp4; clear hp4; have l4 := hb4.size; (try simp at l4); have b1_4 : Hid (Blk w4 (w3.heap.size) #[.slice a3 ds.length c3, .slice b3 es.length d3] 26) := hi_ (Blk.below hb4 lta (by repeat (first | (with_reducible refine Blk.new ?_; first | rfl | (simp; done)) | with_reducible refine Blk.set2 (x0 := .slice none 0 0) (x1 := .slice none 0 0) ?_ | with_reducible refine Blk.alloc _ ?_ | with_reducible refine Blk.drew ?_ | with_reducible refine Blk.other dsa ?_ | with_reducible refine Blk.below (by assumption) lta ?_))); replace HB2 := hbl w4 HB2; refine cells2 b1_4 fun b1c0 b1c1 b1l => ?_; go_wp2_with fail; clear b1c0 b1c1 b1l; refine (same_prog true (HP3.out.keep kpt) (HP4.out.keep kpt) rfl (fun j d d2 h1 h2 => by rw [h1] at h2; cases h2; exact same_refl _ _) rfl (fun j d d2 h1 h2 => by rw [h1] at h2; cases h2; exact same_refl _ _)).mono ?_; rintro e w5 ⟨rfl, hb5⟩; have l5 := hb5.size; (try simp at l5)
  have b2_5 : Hid (Blk w5 (w4.heap.size) #[.slice a4 ds.length c4, .slice b4 es.length d4] 26) := hi_ (Blk.below hb5 lta (by repeat (first | (with_reducible refine Blk.new ?_; first | rfl | (simp; done)) | with_reducible refine Blk.set2 (x0 := .slice none 0 0) (x1 := .slice none 0 0) ?_ | with_reducible refine Blk.alloc _ ?_ | with_reducible refine Blk.drew ?_ | with_reducible refine Blk.other dsa ?_ | with_reducible refine Blk.below (by assumption) lta ?_))); replace HB2 := hbl w5 HB2; go_wp2_with fail; have HPW : Hid (PrV _ w5 _ ds es) := hi_ (HP3.out.keep kpt)
  go_loopw [9] (fun s9 wr => ∃ i : Nat, s9 = .int .i64 ((i : Nat) : Int) /\ i <= es.length /\ Hid (Below w5.heap.size w5 wr)) (fun s9 _ => es.length - (intOf s9).toNat)
  case atStart => exact ⟨0, rfl, Nat.zero_le _, hi_ belr⟩
  case round =>
   obtain ⟨i, rfl, hi, HBr⟩ := hrel; have lr := HBr.out.size; have RP : Hid (Blk wr (w3.heap.size) #[.slice a3 ds.length c3, .slice b3 es.length d3] 26) := hi_ (Blk.below HBr.out lta (blkh b1_4.out)); have lp := RP.out.lt; have hBr := HBr.out; have HBw : Hid (Below w.heap.size w wr) := hi_ (rb2 (belh HB2.out) HBr.out lta)
   by_cases ci : i < es.length
   rotate_left
   ·have ci2 : ¬ (i : Int) < (es.length : Int) := by omega
    have b1_wr_1 := hi_ (blkl wr RP.out); refine cells2 b1_wr_1 fun b1c0 b1c1 b1l => ?_; go_wp2_with fail; clear b1c0 b1c1 b1l
    go_ret
    exact ⟨rfl, (belh HBw.out)⟩
   ·have ci2 : (i : Int) < (es.length : Int) := by omega
    have hel : es.length <= 1000000 := kids_len HPW.out.ex; obtain ⟨y, hy⟩ : ∃ y, es[i]? = some y := ⟨_, List.getElem?_eq_getElem ci⟩; have hdy : deepE y <= 1000000 := by have := HD.out y (List.mem_of_getElem? hy); omega
    obtain ⟨kb, ko, hka, hrow⟩ := pr_slice (HPW.out.ex) (fun h => by rw [h] at hy; simp at hy); subst hka; obtain ⟨kd, nn, pp, tx, ox, ka, ln, cp, hkb, ⟨K0, K1, K2, K3, K4, K5⟩, hyx⟩ := hrow i y hy; have HY := hi_ hyx; have hkb2 : kb < wr.heap.size := by omega
    have HSB : Hid (SB w5 wr kb) := hi_ (SB.below HBr.out (SB.refl hkb)); clear hyx hrow hy; have b1_wr_2 := hi_ (blkl wr RP.out); refine cells2 b1_wr_2 fun b1c0 b1c1 b1l => ?_; go_wp2_with fail; clear b1c0 b1c1 b1l; refine wp_region_held (fun w' => Blk w' (w3.heap.size) #[.slice a3 ds.length c3, .slice (some ⟨kb, ko, none⟩) es.length d3] 26 /\ SB w5 w' kb) (by kernel_rfl) ⟨(blkh b1_wr_2.out), (r2_ HSB.out)⟩ (fun hHeld => ?_); refine tke 0 (.pointer (some ⟨w3.heap.size, 1, none⟩)) rfl (Or.inl ⟨by rfl, by intro w' hS; go_simp⟩) hHeld ?_; refine tke 1 (.slice (some ⟨kb, ko, none⟩) es.length d3) rfl (Or.inl ⟨by rfl, by intro w' hS; have q1 := Blk.cell (hS.1) 1 rfl; go_simp⟩) hHeld ?_; refine tke 2 (.int .i64 ((i : Nat) : Int)) rfl (Or.inl ⟨by rfl, by intro w' hS; go_simp⟩) hHeld ?_; refine tke 3 (.pointer (some ⟨kb, ko + i * 6, none⟩)) rfl (Or.inl ⟨by rfl, by intro w' hS; go_simp⟩) hHeld ?_; refine tke 4 (.agg #[.int .i64 ((kd : Nat) : Int), .string tx, .string ox, .int .i64 (nn), .int .i64 ((pp : Nat) : Int), .slice ka ln cp]) rfl (Or.inl ⟨by rfl, by intro w' hS; have q0 := SB.cell (hS.2) K0; have q1 := SB.cell (hS.2) K1; have q2 := SB.cell (hS.2) K2; have q3 := SB.cell (hS.2) K3; have q4 := SB.cell (hS.2) K4; have q5 := SB.cell (hS.2) K5; go_simp⟩) hHeld ?_; refine tke 6 (.pointer (some ⟨w3.heap.size, 1, none⟩)) rfl (Or.inl ⟨by rfl, by intro w' hS; go_simp⟩) hHeld ?_
    refine tke 7 (.slice (some ⟨kb, ko, none⟩) es.length d3) rfl (Or.inl ⟨by rfl, by intro w' hS; have q1 := Blk.cell (hS.1) 1 rfl; go_simp⟩) hHeld ?_; refine tke 8 (.int .i64 ((i : Nat) : Int)) rfl (Or.inl ⟨by rfl, by intro w' hS; go_simp⟩) hHeld ?_; refine tke 9 (.pointer (some ⟨kb, ko + i * 6, none⟩)) rfl (Or.inl ⟨by rfl, by intro w' hS; go_simp⟩) hHeld ?_; refine tke 10 (.agg #[.int .i64 ((kd : Nat) : Int), .string tx, .string ox, .int .i64 (nn), .int .i64 ((pp : Nat) : Int), .slice ka ln cp]) rfl (Or.inl ⟨by rfl, by intro w' hS; have q0 := SB.cell (hS.2) K0; have q1 := SB.cell (hS.2) K1; have q2 := SB.cell (hS.2) K2; have q3 := SB.cell (hS.2) K3; have q4 := SB.cell (hS.2) K4; have q5 := SB.cell (hS.2) K5; go_simp⟩) hHeld ?_; refine rdy 5 rfl fun K hK => ?_; go_simp; refine (deep_any _ y _ _ _ (Nat.le_refl _) (HY.out.keep (show Kept _ w5 _ from kpt)) hdy).mono ?_; rintro e w6 ⟨rfl, hb6⟩; have l6 := hb6.size; (try simp at l6); replace HBw := hbl w6 HBw; refine hK.out _ _ ⟨(blkh b1_wr_2.out), (r2_ HSB.out)⟩ (fun hHeld => ?_); clear hK K; refine rdy 11 rfl fun K hK => ?_; go_simp; refine (rdeep_any _ y _ _ _ (Nat.le_refl _) (HY.out.keep (show Kept _ w5 _ from kpt)) hdy).mono ?_; rintro e w7 ⟨rfl, hb7⟩; have l7 := hb7.size; (try simp at l7); replace HBw := hbl w7 HBw; refine hK.out _ _ ⟨(blkh b1_wr_2.out), (r2_ HSB.out)⟩ (fun hHeld => ?_); clear hK K; refine tke 12 (.bool false) rfl (Or.inl ⟨by rfl, by intro w' hS; go_simp⟩) hHeld ?_
    refine wpAnyH_done (by kernel_rfl) ?_ _; clear hHeld; go_wp2_with fail
    go_roundw
    case rel =>
     exact ⟨i + 1, (by go_num), by omega, hi_ (belh HBr.out)⟩
    case measure =>
     simp [intOf]; omega
end Go.Proofs.YtlkidgilhlpjhaaGreatDoor

namespace Go.Proofs.YtlkidgilhlpjhaaGreatDoor
open Go.ChangeShapes Go.WideShapes Go.ChangeAt Go.RowKit Go.WideMaps Go.WideElems Go.Joins
open Go.ChangeMaps (open_string)

theorem Tryz.own : ownKnob Tryz.prog.godebug = none := by kernel_rfl
theorem Tryz.laidOut : laidOutB Tryz.prog = true := by kernel_rfl

/-- What the rows lay of the library's variables. -/
def laidT : List (String × DataW Unit) := [("math/bits.deBruijn32tab", Rows.laid_math_bits_deBruijn32tab), ("math/bits.deBruijn64tab", Rows.laid_math_bits_deBruijn64tab), ("internal/strconv.uint64pow10", Rows.laid_internal_strconv_uint64pow10), ("strconv.ErrRange", Rows.laid_strconv_ErrRange), ("strconv.ErrSyntax", Rows.laid_strconv_ErrSyntax)]
theorem door_met (os : Os) (args : Array Value) : laidMetH Tryz.prog laidT ((World.doorLaid Tryz.prog 400 os).forCall (fun _ _ => 0) ⟨#[], args, []⟩).memory :=
 laidMetH_of_parts3 (fuel := 8) (laidMet_of_run' 8 (by kernel_rfl) (by kernel_rfl)) (by kernel_rfl) (by kernel_rfl)

end Go.Proofs.YtlkidgilhlpjhaaGreatDoor
