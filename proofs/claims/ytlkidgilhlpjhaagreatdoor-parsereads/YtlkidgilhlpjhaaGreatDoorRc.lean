/-
  The document's own behind.
  The document's own seq.
  The document's own begins.
-/
import Derived.Test.YtlkidgilhlpjhaaGreatDoorRb
import Derived.LoopN
namespace Go.Proofs.YtlkidgilhlpjhaaGreatDoor
open Go.RowKit

/-- The contract of the document's own function that reads a word and then the part s. -/
def RBeh (ts : List Tok) (en f : Nat) (b : Bool) (s : Sym) : Prop :=
 ∀ (v : Value) (z : Int) (i : Nat) (sb : ByteArray) (l : List UInt8) (_ : sb.data.toList = l) (_ : l ∈ signL) (k : Ex -> Cmd) (O : Out) (w : World), TokSl w v ts -> z = (i : Int) -> i <= ts.length -> O ≠ .out -> runC en (P en f) (mustC l fun _ => .call s k) (ts.drop i) = O →
  Calls Tryz.prog 46 #[txV v en, .int .i64 z, .string sb, .bool b] w (REnd ts w O fun x r => runC en (P en f) (k x) r = O)
set_option maxRecDepth 100000 in
set_option maxHeartbeats 8000000 in
theorem rbeh_seq {ts : List Tok} {en f : Nat} (AF : AllFit ts) (K : RReads ts en f 17 .seq) : RBeh ts en f true .seq := by
 intro v z i sb l hl hs k O w hv hz hi hO hg; subst hz; have hlen : ts.length <= 1500 := hv.1; have ib : i <= 1500 := by omega
 have HA := hi_ AF; have HK := hi_ K; have HO := hi_ hO; have HV := hi_ hv; have HG0 := hi_ hg; clear AF K hO hv hg; unfold txV; have HL := hi_ hl; have HLS := hi_ hs; clear hl hs
 go_enter Tryz.func46, Tryz.ntmps46
 go_wp2_with fail; refine (ris HA.out _ _ l HL.out _ (i) hza _ (HV.out.below belr) HLS.out).mono ?_
 rintro e w1 ⟨rfl, hb1⟩; have l1 := hb1.size; (try simp at l1); have b1_1 : Hid (Blk w1 (w.heap.size) #[v, .int .i64 ((en : Nat) : Int)] 48) := hi_ (Blk.below hb1 lta blkn); have b2_1 : Hid (Blk w1 (w.heap.size + 1) #[.int .i64 0, .string ⟨#[]⟩, .string ⟨#[]⟩, .int .i64 0, .int .i64 0, .slice none 0 0] 35) := hi_ (Blk.below hb1 lta blkn); have HB1 : Hid (Below w.heap.size w w1) := hi_ (rb2 belr hb1 lta)
 cases c1 : hd (isT l) (List.drop (i) ts)
 rotate_left
 ·have lt1 := lt_y c1; obtain ⟨t1, ht1, hp1, hg1⟩ := must_y c1 HG0.out; have HTk1 := hi_ ht1; have HTp1 := hi_ hp1; clear ht1 hp1; have HG1 := hi_ (hg1); clear HG0; clear hg1; refine cells2 b1_1 fun b1c0 b1c1 b1l => ?_; go_wp2_with fail; clear b1c0 b1c1 b1l; refine (HK.out _ _ (i + 1) _ O _ (tv HV HB1) hza (by omega) HO.out HG1.out).mono ?_; rintro e w2 ⟨hb2, ⟨u2, x2, j2, rfl, hx2, hj2, hG⟩ | ⟨j2, rfl, hj2, hG⟩⟩; rotate_left
  ·unfold zeroE; have HG2 := hi_ hG; have neg2 : (-1 - (j2 : Int)) < 0 := by omega
   have jb2 : j2 <= 1500 := by omega
   clear hG HG1; have l2 := hb2.size; (try simp at l2); replace HB1 := hbl w2 HB1; have b2_w2_1 := hi_ (blkl w2 b2_1.out); refine fcells6 b2_w2_1 fun b2c0 b2c1 b2c2 b2c3 b2c4 b2c5 b2f0 b2f1 b2f2 b2f3 b2f4 b2f5 b2l => ?_; go_wp2; refine bodyPost_ret (v := .tuple #[zeroE, .int .i64 (-1 - (j2 : Int))]) (by simp [results, Tryz.results46, go_sem, zeroE, *]) rfl ⟨(belh HB1.out), Or.inr ⟨j2, rfl, (by omega), HG2.out⟩⟩
  obtain ⟨nn2, tx2, ox2, a2, ln2, cp2, rfl, -⟩ := hx2.form2; have HX2 := hi_ hx2; have HG2 := hi_ hG; have nn_2 : ¬ ((j2 : Nat) : Int) < 0 := by omega
  have jb2 : j2 <= 1500 := by omega
  clear hx2 hG HG1; have l2 := hb2.size; (try simp at l2); replace HB1 := hbl w2 HB1; have b2_w2_2 := hi_ (blkl w2 b2_1.out); refine fcells6 b2_w2_2 fun b2c0 b2c1 b2c2 b2c3 b2c4 b2c5 b2f0 b2f1 b2f2 b2f3 b2f4 b2f5 b2l => ?_; go_wp2; refine bodyPost_ret (v := .tuple #[.agg #[.int .i64 ((x2.kind : Nat) : Int), .string tx2, .string ox2, .int .i64 (nn2), .int .i64 ((x2.pl : Nat) : Int), .slice a2 ln2 cp2], .int .i64 ((j2 : Nat) : Int)]) (by simp [results, Tryz.results46, go_sem, *]) rfl ⟨(belh HB1.out), Or.inl ⟨_, x2, j2, rfl, ((HX2.out.keep kpt).low lta), (by omega), HG2.out⟩⟩
 ·have HG1 := hi_ (must_n c1 HG0.out); clear HG0; go_wp2_with fail; refine (fail_any (i) (by omega) _).mono ?_; rintro e w3 ⟨rfl, hb3⟩; unfold zeroE; have l3 := hb3.size; (try simp at l3); replace HB1 := hbl w3 HB1; have b2_w3_3 := hi_ (blkl w3 b2_1.out); refine fcells6 b2_w3_3 fun b2c0 b2c1 b2c2 b2c3 b2c4 b2c5 b2f0 b2f1 b2f2 b2f3 b2f4 b2f5 b2l => ?_; go_wp2; refine bodyPost_ret (v := .tuple #[zeroE, .int .i64 (-1 - ((i : Nat) : Int))]) (by simp [results, Tryz.results46, go_sem, zeroE, *]) rfl ⟨(belh HB1.out), Or.inr ⟨i, rfl, (by omega), HG1.out⟩⟩
set_option maxRecDepth 100000 in
set_option maxHeartbeats 8000000 in
theorem rbeh_expr {ts : List Tok} {en f : Nat} (AF : AllFit ts) (K : RReads ts en f 34 .expr) : RBeh ts en f false .expr := by
 intro v z i sb l hl hs k O w hv hz hi hO hg; subst hz; have hlen : ts.length <= 1500 := hv.1; have ib : i <= 1500 := by omega
 have HA := hi_ AF; have HK := hi_ K; have HO := hi_ hO; have HV := hi_ hv; have HG0 := hi_ hg; clear AF K hO hv hg; unfold txV; have HL := hi_ hl; have HLS := hi_ hs; clear hl hs
 go_enter Tryz.func46, Tryz.ntmps46
 go_wp2_with fail; refine (ris HA.out _ _ l HL.out _ (i) hza _ (HV.out.below belr) HLS.out).mono ?_
 rintro e w1 ⟨rfl, hb1⟩; have l1 := hb1.size; (try simp at l1); have b1_1 : Hid (Blk w1 (w.heap.size) #[v, .int .i64 ((en : Nat) : Int)] 48) := hi_ (Blk.below hb1 lta blkn); have b2_1 : Hid (Blk w1 (w.heap.size + 1) #[.int .i64 0, .string ⟨#[]⟩, .string ⟨#[]⟩, .int .i64 0, .int .i64 0, .slice none 0 0] 35) := hi_ (Blk.below hb1 lta blkn); have HB1 : Hid (Below w.heap.size w w1) := hi_ (rb2 belr hb1 lta)
 cases c1 : hd (isT l) (List.drop (i) ts)
 rotate_left
 ·have lt1 := lt_y c1; obtain ⟨t1, ht1, hp1, hg1⟩ := must_y c1 HG0.out; have HTk1 := hi_ ht1; have HTp1 := hi_ hp1; clear ht1 hp1; have HG1 := hi_ (hg1); clear HG0; clear hg1; refine cells2 b1_1 fun b1c0 b1c1 b1l => ?_; go_wp2_with fail; clear b1c0 b1c1 b1l; refine (HK.out _ _ (i + 1) _ O _ (tv HV HB1) hza (by omega) HO.out HG1.out).mono ?_; rintro e w2 ⟨hb2, ⟨u2, x2, j2, rfl, hx2, hj2, hG⟩ | ⟨j2, rfl, hj2, hG⟩⟩; rotate_left
  ·unfold zeroE; have HG2 := hi_ hG; have neg2 : (-1 - (j2 : Int)) < 0 := by omega
   have jb2 : j2 <= 1500 := by omega
   clear hG HG1; have l2 := hb2.size; (try simp at l2); replace HB1 := hbl w2 HB1; have b2_w2_1 := hi_ (blkl w2 b2_1.out); refine fcells6 b2_w2_1 fun b2c0 b2c1 b2c2 b2c3 b2c4 b2c5 b2f0 b2f1 b2f2 b2f3 b2f4 b2f5 b2l => ?_; go_wp2; refine bodyPost_ret (v := .tuple #[zeroE, .int .i64 (-1 - (j2 : Int))]) (by simp [results, Tryz.results46, go_sem, zeroE, *]) rfl ⟨(belh HB1.out), Or.inr ⟨j2, rfl, (by omega), HG2.out⟩⟩
  obtain ⟨nn2, tx2, ox2, a2, ln2, cp2, rfl, -⟩ := hx2.form2; have HX2 := hi_ hx2; have HG2 := hi_ hG; have nn_2 : ¬ ((j2 : Nat) : Int) < 0 := by omega
  have jb2 : j2 <= 1500 := by omega
  clear hx2 hG HG1; have l2 := hb2.size; (try simp at l2); replace HB1 := hbl w2 HB1; have b2_w2_2 := hi_ (blkl w2 b2_1.out); refine fcells6 b2_w2_2 fun b2c0 b2c1 b2c2 b2c3 b2c4 b2c5 b2f0 b2f1 b2f2 b2f3 b2f4 b2f5 b2l => ?_; go_wp2; refine bodyPost_ret (v := .tuple #[.agg #[.int .i64 ((x2.kind : Nat) : Int), .string tx2, .string ox2, .int .i64 (nn2), .int .i64 ((x2.pl : Nat) : Int), .slice a2 ln2 cp2], .int .i64 ((j2 : Nat) : Int)]) (by simp [results, Tryz.results46, go_sem, *]) rfl ⟨(belh HB1.out), Or.inl ⟨_, x2, j2, rfl, ((HX2.out.keep kpt).low lta), (by omega), HG2.out⟩⟩
 ·have HG1 := hi_ (must_n c1 HG0.out); clear HG0; go_wp2_with fail; refine (fail_any (i) (by omega) _).mono ?_; rintro e w3 ⟨rfl, hb3⟩; unfold zeroE; have l3 := hb3.size; (try simp at l3); replace HB1 := hbl w3 HB1; have b2_w3_3 := hi_ (blkl w3 b2_1.out); refine fcells6 b2_w3_3 fun b2c0 b2c1 b2c2 b2c3 b2c4 b2c5 b2f0 b2f1 b2f2 b2f3 b2f4 b2f5 b2l => ?_; go_wp2; refine bodyPost_ret (v := .tuple #[zeroE, .int .i64 (-1 - ((i : Nat) : Int))]) (by simp [results, Tryz.results46, go_sem, zeroE, *]) rfl ⟨(belh HB1.out), Or.inr ⟨i, rfl, (by omega), HG1.out⟩⟩
end Go.Proofs.YtlkidgilhlpjhaaGreatDoor

namespace Go.Proofs.YtlkidgilhlpjhaaGreatDoor
open Go.RowKit

set_option maxRecDepth 100000 in
set_option maxHeartbeats 8000000 in
theorem rseq {ts : List Tok} {en f : Nat} (AF : AllFit ts) (KE : RReads ts en f 34 .expr) (KS : RReads ts en f 17 .seq) : RReadsC ts en f 17 seqC := by
 intro v z i O w hv hz hi hO hg; subst hz; have hlen : ts.length <= 1500 := hv.1; have ib : i <= 1500 := by omega
 have HA := hi_ AF; have HKE := hi_ KE; have HKS := hi_ KS; have HO := hi_ hO; have HV := hi_ hv; unfold seqC at hg; rw [run_here] at hg; have HG0 := hi_ hg; clear AF KE KS hO hv hg; unfold txV
 go_enter Tryz.func17, Tryz.ntmps17
 go_wp2_with fail; refine (HKE.out _ _ (i) _ O _ (HV.out.below belr) hza (by omega) HO.out HG0.out).mono ?_
 rintro e w1 ⟨hb1, ⟨u1, x1, j1, rfl, hx1, hj1, hG⟩ | ⟨j1, rfl, hj1, hG⟩⟩; rotate_left
 ·unfold zeroE; have HG1 := hi_ hG; have neg1 : (-1 - (j1 : Int)) < 0 := by omega
  have jb1 : j1 <= 1500 := by omega
  clear hG HG0; have l1 := hb1.size; (try simp at l1); have b1_1 : Hid (Blk w1 (w.heap.size) #[v, .int .i64 ((en : Nat) : Int)] 48) := hi_ (Blk.below hb1 lta blkn); have b2_1 : Hid (Blk w1 (w.heap.size + 1) #[.int .i64 0, .string ⟨#[]⟩, .string ⟨#[]⟩, .int .i64 0, .int .i64 0, .slice none 0 0] 35) := hi_ (Blk.below hb1 lta blkn); have HB1 : Hid (Below w.heap.size w w1) := hi_ (rb2 belr hb1 lta); refine fcells6 b2_1 fun b2c0 b2c1 b2c2 b2c3 b2c4 b2c5 b2f0 b2f1 b2f2 b2f3 b2f4 b2f5 b2l => ?_; go_wp2; refine bodyPost_ret (v := .tuple #[zeroE, .int .i64 (-1 - (j1 : Int))]) (by simp [results, Tryz.results17, go_sem, zeroE, *]) rfl ⟨(belh HB1.out), Or.inr ⟨j1, rfl, (by omega), HG1.out⟩⟩
 obtain ⟨nn1, tx1, ox1, a1, ln1, cp1, rfl, -⟩ := hx1.form2; have HX1 := hi_ hx1; have HG1 := hi_ hG; have nn_1 : ¬ ((j1 : Nat) : Int) < 0 := by omega
 have jb1 : j1 <= 1500 := by omega
 clear hx1 hG HG0; have l1 := hb1.size; (try simp at l1); have b1_1 : Hid (Blk w1 (w.heap.size) #[v, .int .i64 ((en : Nat) : Int)] 48) := hi_ (Blk.below hb1 lta blkn); have b2_1 : Hid (Blk w1 (w.heap.size + 1) #[.int .i64 0, .string ⟨#[]⟩, .string ⟨#[]⟩, .int .i64 0, .int .i64 0, .slice none 0 0] 35) := hi_ (Blk.below hb1 lta blkn); have HB1 : Hid (Below w.heap.size w w1) := hi_ (rb2 belr hb1 lta); refine cells2 b1_1 fun b1c0 b1c1 b1l => ?_; go_wp2_with fail; clear b1c0 b1c1 b1l; refine (ris HA.out _ _ [59] rfl _ (j1) hza _ (tv HV HB1) (by decide)).mono ?_; rintro e w2 ⟨rfl, hb2⟩; have l2 := hb2.size; (try simp at l2); have b4_2 : Hid (Blk w2 (w1.heap.size) #[.int .i64 ((x1.kind : Nat) : Int), .string tx1, .string ox1, .int .i64 (nn1), .int .i64 ((x1.pl : Nat) : Int), .slice a1 ln1 cp1] 35) := hi_ (Blk.below hb2 lta (by repeat (first | (with_reducible refine Blk.new ?_; first | rfl | (simp; done)) | with_reducible refine Blk.set6 (x0 := .int .i64 0) (x1 := .string ⟨#[]⟩) (x2 := .string ⟨#[]⟩) (x3 := .int .i64 0) (x4 := .int .i64 0) (x5 := .slice none 0 0) ?_ | with_reducible refine Blk.alloc _ ?_ | with_reducible refine Blk.drew ?_ | with_reducible refine Blk.other dsa ?_ | with_reducible refine Blk.below (by assumption) lta ?_))); replace HB1 := hbl w2 HB1
 cases c2 : hd (isT [59]) (List.drop (j1) ts)
 rotate_left
 ·have lt2 := lt_y c2; have HG2 := hi_ (may_y c2 HG1.out); clear HG1; have b1_w2_1 := hi_ (blkl w2 b1_1.out); refine cells2 b1_w2_1 fun b1c0 b1c1 b1l => ?_; go_wp2_with fail; clear b1c0 b1c1 b1l; refine (HKS.out _ _ (j1 + 1) _ O _ (tv HV HB1) hza (by omega) HO.out HG2.out).mono ?_; rintro e w3 ⟨hb3, ⟨u3, x3, j3, rfl, hx3, hj3, hG⟩ | ⟨j3, rfl, hj3, hG⟩⟩; rotate_left
  ·unfold zeroE; have HG3 := hi_ hG; have neg3 : (-1 - (j3 : Int)) < 0 := by omega
   have jb3 : j3 <= 1500 := by omega
   clear hG HG2; have l3 := hb3.size; (try simp at l3); replace HB1 := hbl w3 HB1; have b2_w3_2 := hi_ (blkl w3 b2_1.out); refine fcells6 b2_w3_2 fun b2c0 b2c1 b2c2 b2c3 b2c4 b2c5 b2f0 b2f1 b2f2 b2f3 b2f4 b2f5 b2l => ?_; go_wp2; refine bodyPost_ret (v := .tuple #[zeroE, .int .i64 (-1 - (j3 : Int))]) (by simp [results, Tryz.results17, go_sem, zeroE, *]) rfl ⟨(belh HB1.out), Or.inr ⟨j3, rfl, (by omega), HG3.out⟩⟩
  obtain ⟨nn3, tx3, ox3, a3, ln3, cp3, rfl, -⟩ := hx3.form2; have HX3 := hi_ hx3; have HG3 := hi_ hG; have nn_3 : ¬ ((j3 : Nat) : Int) < 0 := by omega
  have jb3 : j3 <= 1500 := by omega
  clear hx3 hG HG2; have l3 := hb3.size; (try simp at l3); replace HB1 := hbl w3 HB1; go_wp2_with fail; refine wp_region_held (fun w' => Blk w' (w.heap.size) #[v, .int .i64 ((en : Nat) : Int)] 48 /\ Blk w' (w1.heap.size) #[.int .i64 ((x1.kind : Nat) : Int), .string tx1, .string ox1, .int .i64 (nn1), .int .i64 ((x1.pl : Nat) : Int), .slice a1 ln1 cp1] 35 /\ Blk w' (w3.heap.size) #[.int .i64 ((x3.kind : Nat) : Int), .string tx3, .string ox3, .int .i64 (nn3), .int .i64 ((x3.pl : Nat) : Int), .slice a3 ln3 cp3] 35) (by kernel_rfl) ⟨(blkh b1_w2_1.out), (blkh b4_2.out), (by repeat (first | (with_reducible refine Blk.new ?_; first | rfl | (simp; done)) | with_reducible refine Blk.set6 (x0 := .int .i64 0) (x1 := .string ⟨#[]⟩) (x2 := .string ⟨#[]⟩) (x3 := .int .i64 0) (x4 := .int .i64 0) (x5 := .slice none 0 0) ?_ | with_reducible refine Blk.alloc _ ?_ | with_reducible refine Blk.drew ?_ | with_reducible refine Blk.other dsa ?_ | with_reducible refine Blk.below (by assumption) lta ?_))⟩ (fun hHeld => ?_); refine tke 0 (.agg #[v, .int .i64 ((en : Nat) : Int)]) rfl (Or.inl ⟨by rfl, by intro w' hS; have q0 := Blk.cell (hS.1) 0 rfl; have q1 := Blk.cell (hS.1) 1 rfl; go_simp⟩) hHeld ?_; refine tke 1 (.int .i64 ((i : Nat) : Int)) rfl (Or.inl ⟨by rfl, by intro w' hS; go_simp⟩) hHeld ?_
  refine tke 3 (.agg #[.int .i64 ((x1.kind : Nat) : Int), .string tx1, .string ox1, .int .i64 (nn1), .int .i64 ((x1.pl : Nat) : Int), .slice a1 ln1 cp1]) rfl (Or.inl ⟨by rfl, by intro w' hS; have q0 := Blk.cell (hS.2.1) 0 rfl; have q1 := Blk.cell (hS.2.1) 1 rfl; have q2 := Blk.cell (hS.2.1) 2 rfl; have q3 := Blk.cell (hS.2.1) 3 rfl; have q4 := Blk.cell (hS.2.1) 4 rfl; have q5 := Blk.cell (hS.2.1) 5 rfl; go_simp⟩) hHeld ?_; refine tke 4 (.agg #[.int .i64 ((x3.kind : Nat) : Int), .string tx3, .string ox3, .int .i64 (nn3), .int .i64 ((x3.pl : Nat) : Int), .slice a3 ln3 cp3]) rfl (Or.inl ⟨by rfl, by intro w' hS; have q0 := Blk.cell (hS.2.2) 0 rfl; have q1 := Blk.cell (hS.2.2) 1 rfl; have q2 := Blk.cell (hS.2.2) 2 rfl; have q3 := Blk.cell (hS.2.2) 3 rfl; have q4 := Blk.cell (hS.2.2) 4 rfl; have q5 := Blk.cell (hS.2.2) 5 rfl; go_simp⟩) hHeld ?_; refine tke 7 (.int .i64 ((j3 : Nat) : Int)) rfl (Or.inl ⟨by rfl, by intro w' hS; go_simp⟩) hHeld ?_; refine wpAnyH_ready (rs := [2, 5]) (by kernel_rfl) (by simp) ?_; refine AllReadyH.cons rfl (fun K hK => ?_) ?_
  ·go_simp; refine (rat _ _ (i) hza _ (tv HV HB1)).mono ?_
   rintro e w4 ⟨rfl, hb4⟩; have l4 := hb4.size; (try simp at l4); have b6_4 : Hid (Blk w4 (w3.heap.size) #[.int .i64 ((x3.kind : Nat) : Int), .string tx3, .string ox3, .int .i64 (nn3), .int .i64 ((x3.pl : Nat) : Int), .slice a3 ln3 cp3] 35) := hi_ (Blk.below hb4 lta (by repeat (first | (with_reducible refine Blk.new ?_; first | rfl | (simp; done)) | with_reducible refine Blk.set6 (x0 := .int .i64 0) (x1 := .string ⟨#[]⟩) (x2 := .string ⟨#[]⟩) (x3 := .int .i64 0) (x4 := .int .i64 0) (x5 := .slice none 0 0) ?_ | with_reducible refine Blk.alloc _ ?_ | with_reducible refine Blk.drew ?_ | with_reducible refine Blk.other dsa ?_ | with_reducible refine Blk.below (by assumption) lta ?_))); replace HB1 := hbl w4 HB1; refine hK.out _ _ ⟨(blkh b1_w2_1.out), (blkh b4_2.out), (blkh b6_4.out)⟩ (fun hHeld => ?_); clear hK K; refine rdy 5 rfl fun K hK => ?_; go_simp; refine hK.out _ _ ⟨(blkh b1_w2_1.out), (blkh b4_2.out), (blkh b6_4.out)⟩ (fun hHeld => ?_); clear hK K; refine rdy 6 rfl fun K hK => ?_; go_simp; refine (of_any _ _ _ _ _ _ _).mono ?_; rintro e w5 ⟨rfl, hb5⟩; have l5 := hb5.size; (try simp at l5); have b7_5 : Hid (Blk w5 (w4.heap.size) #[.int .i64 ((x1.kind : Nat) : Int), .string tx1, .string ox1, .int .i64 (nn1), .int .i64 ((x1.pl : Nat) : Int), .slice a1 ln1 cp1, .int .i64 ((x3.kind : Nat) : Int), .string tx3, .string ox3, .int .i64 (nn3), .int .i64 ((x3.pl : Nat) : Int), .slice a3 ln3 cp3] 35) := hi_ (Blk.below hb5 lta blkn); replace HB1 := hbl w5 HB1
   refine hK.out _ _ ⟨(blkh b1_w2_1.out), (blkh b4_2.out), (blkh b6_4.out)⟩ (fun hHeld => ?_); clear hK K; refine rdy 8 rfl fun K hK => ?_; have b2_w5_3 := hi_ (blkl w5 b2_1.out)
   with_reducible refine fcells6 b2_w5_3 fun b2c0 b2c1 b2c2 b2c3 b2c4 b2c5 b2f0 b2f1 b2f2 b2f3 b2f4 b2f5 b2l => ?_
   go_simp; clear b2c0 b2c1 b2c2 b2c3 b2c4 b2c5 b2f0 b2f1 b2f2 b2f3 b2f4 b2f5 b2l
   refine hK.out _ _ ⟨(blkh b1_w2_1.out), (blkh b4_2.out), (blkh b6_4.out)⟩ (fun hHeld => ?_); clear hK K; refine rdy 9 rfl fun K hK => ?_; go_simp; refine hK.out _ _ ⟨(blkh b1_w2_1.out), (blkh b4_2.out), (blkh b6_4.out)⟩ (fun hHeld => ?_); clear hK K; refine wpAnyH_done (by kernel_rfl) ?_ _; clear hHeld; refine fcells6 b2_w5_3 fun b2c0 b2c1 b2c2 b2c3 b2c4 b2c5 b2f0 b2f1 b2f2 b2f3 b2f4 b2f5 b2l => ?_; go_wp2; refine bodyPost_ret (v := .tuple #[.agg #[.int .i64 9, .string ⟨#[]⟩, .string ⟨#[]⟩, .int .i64 0, .int .i64 ((place en (List.drop (i) ts) : Nat) : Int), .slice (some ⟨w4.heap.size, 0, none⟩) 2 2], .int .i64 ((j3 : Nat) : Int)]) (by simp [results, Tryz.results17, go_sem, *]) rfl ⟨(belh HB1.out), Or.inl ⟨_, _, j3, rfl, ?_, (by omega), HG3.out.symm⟩⟩; refine ex_two (k := 9) (t := []) (o := []) (n := 0) (p := place en (List.drop (i) ts)) (u1 := .agg #[.int .i64 ((x1.kind : Nat) : Int), .string tx1, .string ox1, .int .i64 (nn1), .int .i64 ((x1.pl : Nat) : Int), .slice a1 ln1 cp1]) (u2 := .agg #[.int .i64 ((x3.kind : Nat) : Int), .string tx3, .string ox3, .int .i64 (nn3), .int .i64 ((x3.pl : Nat) : Int), .slice a3 ln3 cp3]) lta lta ?_ ?_ ((HX1.out.keep kpt).low lta) ((HX3.out.keep kpt).low lta)
   ·exact blkc0 (blkh b7_5.out) (six rfl rfl rfl rfl rfl rfl)
   ·exact blkc (blkh b7_5.out) (six rfl rfl rfl rfl rfl rfl)
  ·refine AllReadyH.cons rfl (fun K hK => ?_) AllReadyH.nil; go_simp; refine hK.out _ _ ⟨(blkh b1_w2_1.out), (blkh b4_2.out), (by repeat (first | (with_reducible refine Blk.new ?_; first | rfl | (simp; done)) | with_reducible refine Blk.set6 (x0 := .int .i64 0) (x1 := .string ⟨#[]⟩) (x2 := .string ⟨#[]⟩) (x3 := .int .i64 0) (x4 := .int .i64 0) (x5 := .slice none 0 0) ?_ | with_reducible refine Blk.alloc _ ?_ | with_reducible refine Blk.drew ?_ | with_reducible refine Blk.other dsa ?_ | with_reducible refine Blk.below (by assumption) lta ?_))⟩ (fun hHeld => ?_); clear hK K; refine rdy 2 rfl fun K hK => ?_; go_simp; refine (rat _ _ (i) hza _ (tv HV HB1)).mono ?_; rintro e w6 ⟨rfl, hb6⟩; have l6 := hb6.size; (try simp at l6); have b6_6 : Hid (Blk w6 (w3.heap.size) #[.int .i64 ((x3.kind : Nat) : Int), .string tx3, .string ox3, .int .i64 (nn3), .int .i64 ((x3.pl : Nat) : Int), .slice a3 ln3 cp3] 35) := hi_ (Blk.below hb6 lta (by repeat (first | (with_reducible refine Blk.new ?_; first | rfl | (simp; done)) | with_reducible refine Blk.set6 (x0 := .int .i64 0) (x1 := .string ⟨#[]⟩) (x2 := .string ⟨#[]⟩) (x3 := .int .i64 0) (x4 := .int .i64 0) (x5 := .slice none 0 0) ?_ | with_reducible refine Blk.alloc _ ?_ | with_reducible refine Blk.drew ?_ | with_reducible refine Blk.other dsa ?_ | with_reducible refine Blk.below (by assumption) lta ?_)))
   have b8_6 : Hid (Blk w6 (w3.heap.size + 1) #[.int .i64 ((x1.kind : Nat) : Int), .string tx1, .string ox1, .int .i64 (nn1), .int .i64 ((x1.pl : Nat) : Int), .slice a1 ln1 cp1, .int .i64 ((x3.kind : Nat) : Int), .string tx3, .string ox3, .int .i64 (nn3), .int .i64 ((x3.pl : Nat) : Int), .slice a3 ln3 cp3] 35) := hi_ (Blk.below hb6 lta blkn); replace HB1 := hbl w6 HB1; refine hK.out _ _ ⟨(blkh b1_w2_1.out), (blkh b4_2.out), (blkh b6_6.out)⟩ (fun hHeld => ?_); clear hK K; refine rdy 6 rfl fun K hK => ?_; go_simp; refine (of_any _ _ _ _ _ _ _).mono ?_; rintro e w7 ⟨rfl, hb7⟩; have l7 := hb7.size; (try simp at l7); replace HB1 := hbl w7 HB1; refine hK.out _ _ ⟨(blkh b1_w2_1.out), (blkh b4_2.out), (blkh b6_6.out)⟩ (fun hHeld => ?_); clear hK K; refine rdy 8 rfl fun K hK => ?_; have b2_w7_4 := hi_ (blkl w7 b2_1.out)
   with_reducible refine fcells6 b2_w7_4 fun b2c0 b2c1 b2c2 b2c3 b2c4 b2c5 b2f0 b2f1 b2f2 b2f3 b2f4 b2f5 b2l => ?_
   go_simp; clear b2c0 b2c1 b2c2 b2c3 b2c4 b2c5 b2f0 b2f1 b2f2 b2f3 b2f4 b2f5 b2l
   refine hK.out _ _ ⟨(blkh b1_w2_1.out), (blkh b4_2.out), (blkh b6_6.out)⟩ (fun hHeld => ?_); clear hK K; refine rdy 9 rfl fun K hK => ?_; go_simp; refine hK.out _ _ ⟨(blkh b1_w2_1.out), (blkh b4_2.out), (blkh b6_6.out)⟩ (fun hHeld => ?_); clear hK K; refine wpAnyH_done (by kernel_rfl) ?_ _; clear hHeld; refine fcells6 b2_w7_4 fun b2c0 b2c1 b2c2 b2c3 b2c4 b2c5 b2f0 b2f1 b2f2 b2f3 b2f4 b2f5 b2l => ?_; go_wp2; refine bodyPost_ret (v := .tuple #[.agg #[.int .i64 9, .string ⟨#[]⟩, .string ⟨#[]⟩, .int .i64 0, .int .i64 ((place en (List.drop (i) ts) : Nat) : Int), .slice (some ⟨w3.heap.size + 1, 0, none⟩) 2 2], .int .i64 ((j3 : Nat) : Int)]) (by simp [results, Tryz.results17, go_sem, *]) rfl ⟨(belh HB1.out), Or.inl ⟨_, _, j3, rfl, ?_, (by omega), HG3.out.symm⟩⟩; refine ex_two (k := 9) (t := []) (o := []) (n := 0) (p := place en (List.drop (i) ts)) (u1 := .agg #[.int .i64 ((x1.kind : Nat) : Int), .string tx1, .string ox1, .int .i64 (nn1), .int .i64 ((x1.pl : Nat) : Int), .slice a1 ln1 cp1]) (u2 := .agg #[.int .i64 ((x3.kind : Nat) : Int), .string tx3, .string ox3, .int .i64 (nn3), .int .i64 ((x3.pl : Nat) : Int), .slice a3 ln3 cp3]) lta lta ?_ ?_ ((HX1.out.keep kpt).low lta) ((HX3.out.keep kpt).low lta)
   ·exact blkc0 (blkh b8_6.out) (six rfl rfl rfl rfl rfl rfl)
   ·exact blkc (blkh b8_6.out) (six rfl rfl rfl rfl rfl rfl)
 ·have HG2 := hi_ (may_n c2 HG1.out); clear HG1; refine cells6 b4_2 fun b4c0 b4c1 b4c2 b4c3 b4c4 b4c5 b4l => ?_; have b2_w2_5 := hi_ (blkl w2 b2_1.out); refine fcells6 b2_w2_5 fun b2c0 b2c1 b2c2 b2c3 b2c4 b2c5 b2f0 b2f1 b2f2 b2f3 b2f4 b2f5 b2l => ?_; go_wp2; refine bodyPost_ret (v := .tuple #[.agg #[.int .i64 ((x1.kind : Nat) : Int), .string tx1, .string ox1, .int .i64 (nn1), .int .i64 ((x1.pl : Nat) : Int), .slice a1 ln1 cp1], .int .i64 ((j1 : Nat) : Int)]) (by simp [results, Tryz.results17, go_sem, *]) rfl ⟨(belh HB1.out), Or.inl ⟨_, x1, j1, rfl, ((HX1.out.keep kpt).low lta), (by omega), HG2.out.symm⟩⟩
end Go.Proofs.YtlkidgilhlpjhaaGreatDoor

namespace Go.Proofs.YtlkidgilhlpjhaaGreatDoor
open Go.RowKit

theorem beg_word {ts : List Tok} {i : Nat} {s : List UInt8} (h : hd (isT s) (ts.drop i) = true) (hs : firstL.contains s = true) : hd begins (ts.drop i) = true := by
  cases e : ts.drop i with
  | nil => rw [e] at h; cases h
  | cons t r =>
    rw [e] at h; have h' : t.text = s := by simpa [hd, isT] using h
    simp only [hd, begins, h', hs, Bool.true_or]
theorem beg_kind {ts : List Tok} {i k : Nat} (h : hd (isK k) (ts.drop i) = true) (hk : k = 1 \/ k = 3) : hd begins (ts.drop i) = true := by
  cases e : ts.drop i with
  | nil => rw [e] at h; cases h
  | cons t r =>
    rw [e] at h; have h' : t.kind = k := by simpa [hd, isK] using h
    simp only [hd, begins, h']
    rcases hk with rfl | rfl <;> simp
theorem beg_not {ts : List Tok} {i : Nat} (k1 : hd (isK 1) (ts.drop i) = false) (k3 : hd (isK 3) (ts.drop i) = false) (h : ∀ s ∈ firstL, hd (isT s) (ts.drop i) = false) : hd begins (ts.drop i) = false := by
  cases e : ts.drop i with
  | nil => rfl
  | cons t r =>
    rw [e] at h k1 k3
    simp only [hd, isK] at k1 k3
    have h2 : firstL.contains t.text = false := by
      cases c : firstL.contains t.text with
      | false => rfl
      | true =>
        have := h t.text (by simpa using c)
        simp [hd, isT] at this
    simp only [hd, begins, h2, k1, k3]
    rfl
set_option maxRecDepth 100000 in
set_option maxHeartbeats 8000000 in
theorem rbegins_1 {ts : List Tok} {en : Nat} (AF : AllFit ts)  : ∀ (v : Value) (z : Int) (i : Nat) (w : World), TokSl w v ts -> z = (i : Int) -> i <= ts.length -> hd (isK 1) (ts.drop i) = true -> hd (isK 3) (ts.drop i) = false -> Calls Tryz.prog 75 #[txV v en, .int .i64 z] w fun e w' => e = .returned (.bool (hd begins (ts.drop i))) /\ Below w.heap.size w w' := by
  intro v z i w hv hz hi k1 k3; subst hz; have hlen : ts.length <= 1500 := hv.1; have ib : i <= 1500 := by omega
  have HA := hi_ AF; have HV := hi_ hv; have Hk1 := hi_ k1; have Hk3 := hi_ k3; clear AF hv k1 k3; unfold txV
  go_enter Tryz.func75, Tryz.ntmps75
  go_wp2_with fail; refine (rkind_y _ _ (i) 1 hza _ (HV.out.below belr) (by decide) Hk1.out).mono ?_
  rintro e w1 ⟨rfl, hb1⟩; have l1 := hb1.size; (try simp at l1); have b1_1 : Hid (Blk w1 (w.heap.size) #[v, .int .i64 ((en : Nat) : Int)] 48) := hi_ (Blk.below hb1 lta blkn); have HB1 : Hid (Below w.heap.size w w1) := hi_ (rb2 belr hb1 lta); go_wp2; refine bodyPost_ret (v := .bool true) (by simp [results, Tryz.results75, go_sem, *]) rfl ⟨?_, (belh HB1.out)⟩; rw [beg_kind Hk1.out (by decide)]
set_option maxRecDepth 100000 in
set_option maxHeartbeats 8000000 in
theorem rbegins_3 {ts : List Tok} {en : Nat} (AF : AllFit ts)  : ∀ (v : Value) (z : Int) (i : Nat) (w : World), TokSl w v ts -> z = (i : Int) -> i <= ts.length -> hd (isK 1) (ts.drop i) = false -> hd (isK 3) (ts.drop i) = true -> Calls Tryz.prog 75 #[txV v en, .int .i64 z] w fun e w' => e = .returned (.bool (hd begins (ts.drop i))) /\ Below w.heap.size w w' := by
  intro v z i w hv hz hi k1 k3; subst hz; have hlen : ts.length <= 1500 := hv.1; have ib : i <= 1500 := by omega
  have HA := hi_ AF; have HV := hi_ hv; have Hk1 := hi_ k1; have Hk3 := hi_ k3; clear AF hv k1 k3; unfold txV
  go_enter Tryz.func75, Tryz.ntmps75
  go_wp2_with fail; refine (rkind_y _ _ (i) 3 hza _ (HV.out.below belr) (by decide) Hk3.out).mono ?_
  rintro e w1 ⟨rfl, hb1⟩; have l1 := hb1.size; (try simp at l1); have b1_1 : Hid (Blk w1 (w.heap.size) #[v, .int .i64 ((en : Nat) : Int)] 48) := hi_ (Blk.below hb1 lta blkn); have HB1 : Hid (Below w.heap.size w w1) := hi_ (rb2 belr hb1 lta); go_wp2; refine bodyPost_ret (v := .bool true) (by simp [results, Tryz.results75, go_sem, *]) rfl ⟨?_, (belh HB1.out)⟩; rw [beg_kind Hk3.out (by decide)]
set_option maxRecDepth 100000 in
set_option maxHeartbeats 8000000 in
theorem rbegins_n {ts : List Tok} {en : Nat} (AF : AllFit ts)  : ∀ (v : Value) (z : Int) (i : Nat) (w : World), TokSl w v ts -> z = (i : Int) -> i <= ts.length -> hd (isK 1) (ts.drop i) = false -> hd (isK 3) (ts.drop i) = false -> Calls Tryz.prog 75 #[txV v en, .int .i64 z] w fun e w' => e = .returned (.bool (hd begins (ts.drop i))) /\ Below w.heap.size w w' := by
  intro v z i w hv hz hi k1 k3; subst hz; have hlen : ts.length <= 1500 := hv.1; have ib : i <= 1500 := by omega
  have HA := hi_ AF; have HV := hi_ hv; have Hk1 := hi_ k1; have Hk3 := hi_ k3; clear AF hv k1 k3; unfold txV
  go_enter Tryz.func75, Tryz.ntmps75
  go_wp2_with fail; refine (rkind_n _ _ (i) 1 3 hza _ (HV.out.below belr) (by decide) (by decide) Hk1.out Hk3.out).mono ?_
  rintro e w1 ⟨⟨kn1, rfl, hka, hkb⟩, hb1⟩; have ka1 : ((kn1 : Int) == 1) = false := hka; have kb1 : ((kn1 : Int) == 3) = false := hkb; clear hka hkb; have l1 := hb1.size; (try simp at l1); have b1_1 : Hid (Blk w1 (w.heap.size) #[v, .int .i64 ((en : Nat) : Int)] 48) := hi_ (Blk.below hb1 lta blkn); have HB1 : Hid (Below w.heap.size w w1) := hi_ (rb2 belr hb1 lta); go_wp2_with fail; refine wp_loop_rounds 11 ?_; rw [rounds_succ]; refine cells2 b1_1 fun b1c0 b1c1 b1l => ?_; go_wp2_with fail; clear b1c0 b1c1 b1l; refine (ris HA.out _ _ [33] rfl _ (i) hza _ (tv HV HB1) (by decide)).mono ?_; rintro e w2 ⟨rfl, hb2⟩; have l2 := hb2.size; (try simp at l2); have b2_2 : Hid (Blk w2 (w1.heap.size) #[.string ⟨#[33]⟩, .string ⟨#[40]⟩, .string ⟨#[112, 114, 105, 110, 116]⟩, .string ⟨#[115, 119, 97, 112]⟩, .string ⟨#[97, 100, 100]⟩, .string ⟨#[99, 97, 115]⟩, .string ⟨#[115, 111, 109, 101]⟩, .string ⟨#[110, 111, 110, 101]⟩, .string ⟨#[116, 114, 117, 101]⟩, .string ⟨#[102, 97, 108, 115, 101]⟩] 9) := hi_ (Blk.below hb2 lta blkn); replace HB1 := hbl w2 HB1
  cases c2 : hd (isT [33]) (List.drop (i) ts)
  rotate_left
  · have lt2 := lt_y c2; go_wp2; refine bodyPost_ret (v := .bool true) (by simp [results, Tryz.results75, go_sem, *]) rfl ⟨?_, (belh HB1.out)⟩; rw [beg_word c2 (by decide)]
  · go_wp2_with fail; rw [rounds_succ]
    refine cells10 b2_2 fun b2c0 b2c1 b2c2 b2c3 b2c4 b2c5 b2c6 b2c7 b2c8 b2c9 b2l => ?_; have b1_w2_1 := hi_ (blkl w2 b1_1.out); refine cells2 b1_w2_1 fun b1c0 b1c1 b1l => ?_; go_wp2_with fail; clear b2c0 b2c1 b2c2 b2c3 b2c4 b2c5 b2c6 b2c7 b2c8 b2c9 b2l b1c0 b1c1 b1l; refine (ris HA.out _ _ [40] rfl _ (i) hza _ (tv HV HB1) (by decide)).mono ?_; rintro e w3 ⟨rfl, hb3⟩; have l3 := hb3.size; (try simp at l3); replace HB1 := hbl w3 HB1
    cases c3 : hd (isT [40]) (List.drop (i) ts)
    rotate_left
    · have lt3 := lt_y c3; go_wp2; refine bodyPost_ret (v := .bool true) (by simp [results, Tryz.results75, go_sem, *]) rfl ⟨?_, (belh HB1.out)⟩; rw [beg_word c3 (by decide)]
    · go_wp2_with fail; rw [rounds_succ]
      have b2_w3_2 := hi_ (blkl w3 b2_2.out); refine cells10 b2_w3_2 fun b2c0 b2c1 b2c2 b2c3 b2c4 b2c5 b2c6 b2c7 b2c8 b2c9 b2l => ?_; have b1_w3_3 := hi_ (blkl w3 b1_w2_1.out); refine cells2 b1_w3_3 fun b1c0 b1c1 b1l => ?_; go_wp2_with fail; clear b2c0 b2c1 b2c2 b2c3 b2c4 b2c5 b2c6 b2c7 b2c8 b2c9 b2l b1c0 b1c1 b1l; refine (ris HA.out _ _ [112, 114, 105, 110, 116] rfl _ (i) hza _ (tv HV HB1) (by decide)).mono ?_; rintro e w4 ⟨rfl, hb4⟩; have l4 := hb4.size; (try simp at l4); replace HB1 := hbl w4 HB1
      cases c4 : hd (isT [112, 114, 105, 110, 116]) (List.drop (i) ts)
      rotate_left
      · have lt4 := lt_y c4; go_wp2; refine bodyPost_ret (v := .bool true) (by simp [results, Tryz.results75, go_sem, *]) rfl ⟨?_, (belh HB1.out)⟩; rw [beg_word c4 (by decide)]
      · go_wp2_with fail; rw [rounds_succ]
        have b2_w4_4 := hi_ (blkl w4 b2_w3_2.out); refine cells10 b2_w4_4 fun b2c0 b2c1 b2c2 b2c3 b2c4 b2c5 b2c6 b2c7 b2c8 b2c9 b2l => ?_; have b1_w4_5 := hi_ (blkl w4 b1_w3_3.out); refine cells2 b1_w4_5 fun b1c0 b1c1 b1l => ?_; go_wp2_with fail; clear b2c0 b2c1 b2c2 b2c3 b2c4 b2c5 b2c6 b2c7 b2c8 b2c9 b2l b1c0 b1c1 b1l; refine (ris HA.out _ _ [115, 119, 97, 112] rfl _ (i) hza _ (tv HV HB1) (by decide)).mono ?_; rintro e w5 ⟨rfl, hb5⟩; have l5 := hb5.size; (try simp at l5); replace HB1 := hbl w5 HB1
        cases c5 : hd (isT [115, 119, 97, 112]) (List.drop (i) ts)
        rotate_left
        · have lt5 := lt_y c5; go_wp2; refine bodyPost_ret (v := .bool true) (by simp [results, Tryz.results75, go_sem, *]) rfl ⟨?_, (belh HB1.out)⟩; rw [beg_word c5 (by decide)]
        · go_wp2_with fail; rw [rounds_succ]
          have b2_w5_6 := hi_ (blkl w5 b2_w4_4.out); refine cells10 b2_w5_6 fun b2c0 b2c1 b2c2 b2c3 b2c4 b2c5 b2c6 b2c7 b2c8 b2c9 b2l => ?_; have b1_w5_7 := hi_ (blkl w5 b1_w4_5.out); refine cells2 b1_w5_7 fun b1c0 b1c1 b1l => ?_; go_wp2_with fail; clear b2c0 b2c1 b2c2 b2c3 b2c4 b2c5 b2c6 b2c7 b2c8 b2c9 b2l b1c0 b1c1 b1l; refine (ris HA.out _ _ [97, 100, 100] rfl _ (i) hza _ (tv HV HB1) (by decide)).mono ?_; rintro e w6 ⟨rfl, hb6⟩; have l6 := hb6.size; (try simp at l6); replace HB1 := hbl w6 HB1
          cases c6 : hd (isT [97, 100, 100]) (List.drop (i) ts)
          rotate_left
          · have lt6 := lt_y c6; go_wp2; refine bodyPost_ret (v := .bool true) (by simp [results, Tryz.results75, go_sem, *]) rfl ⟨?_, (belh HB1.out)⟩; rw [beg_word c6 (by decide)]
          · go_wp2_with fail; rw [rounds_succ]
            have b2_w6_8 := hi_ (blkl w6 b2_w5_6.out); refine cells10 b2_w6_8 fun b2c0 b2c1 b2c2 b2c3 b2c4 b2c5 b2c6 b2c7 b2c8 b2c9 b2l => ?_; have b1_w6_9 := hi_ (blkl w6 b1_w5_7.out); refine cells2 b1_w6_9 fun b1c0 b1c1 b1l => ?_; go_wp2_with fail; clear b2c0 b2c1 b2c2 b2c3 b2c4 b2c5 b2c6 b2c7 b2c8 b2c9 b2l b1c0 b1c1 b1l; refine (ris HA.out _ _ [99, 97, 115] rfl _ (i) hza _ (tv HV HB1) (by decide)).mono ?_; rintro e w7 ⟨rfl, hb7⟩; have l7 := hb7.size; (try simp at l7); replace HB1 := hbl w7 HB1
            cases c7 : hd (isT [99, 97, 115]) (List.drop (i) ts)
            rotate_left
            · have lt7 := lt_y c7; go_wp2; refine bodyPost_ret (v := .bool true) (by simp [results, Tryz.results75, go_sem, *]) rfl ⟨?_, (belh HB1.out)⟩; rw [beg_word c7 (by decide)]
            · go_wp2_with fail; rw [rounds_succ]
              have b2_w7_10 := hi_ (blkl w7 b2_w6_8.out); refine cells10 b2_w7_10 fun b2c0 b2c1 b2c2 b2c3 b2c4 b2c5 b2c6 b2c7 b2c8 b2c9 b2l => ?_; have b1_w7_11 := hi_ (blkl w7 b1_w6_9.out); refine cells2 b1_w7_11 fun b1c0 b1c1 b1l => ?_; go_wp2_with fail; clear b2c0 b2c1 b2c2 b2c3 b2c4 b2c5 b2c6 b2c7 b2c8 b2c9 b2l b1c0 b1c1 b1l; refine (ris HA.out _ _ [115, 111, 109, 101] rfl _ (i) hza _ (tv HV HB1) (by decide)).mono ?_; rintro e w8 ⟨rfl, hb8⟩; have l8 := hb8.size; (try simp at l8); replace HB1 := hbl w8 HB1
              cases c8 : hd (isT [115, 111, 109, 101]) (List.drop (i) ts)
              rotate_left
              · have lt8 := lt_y c8; go_wp2; refine bodyPost_ret (v := .bool true) (by simp [results, Tryz.results75, go_sem, *]) rfl ⟨?_, (belh HB1.out)⟩; rw [beg_word c8 (by decide)]
              · go_wp2_with fail; rw [rounds_succ]
                have b2_w8_12 := hi_ (blkl w8 b2_w7_10.out); refine cells10 b2_w8_12 fun b2c0 b2c1 b2c2 b2c3 b2c4 b2c5 b2c6 b2c7 b2c8 b2c9 b2l => ?_; have b1_w8_13 := hi_ (blkl w8 b1_w7_11.out); refine cells2 b1_w8_13 fun b1c0 b1c1 b1l => ?_; go_wp2_with fail; clear b2c0 b2c1 b2c2 b2c3 b2c4 b2c5 b2c6 b2c7 b2c8 b2c9 b2l b1c0 b1c1 b1l; refine (ris HA.out _ _ [110, 111, 110, 101] rfl _ (i) hza _ (tv HV HB1) (by decide)).mono ?_; rintro e w9 ⟨rfl, hb9⟩; have l9 := hb9.size; (try simp at l9); replace HB1 := hbl w9 HB1
                cases c9 : hd (isT [110, 111, 110, 101]) (List.drop (i) ts)
                rotate_left
                · have lt9 := lt_y c9; go_wp2; refine bodyPost_ret (v := .bool true) (by simp [results, Tryz.results75, go_sem, *]) rfl ⟨?_, (belh HB1.out)⟩; rw [beg_word c9 (by decide)]
                · go_wp2_with fail; rw [rounds_succ]
                  have b2_w9_14 := hi_ (blkl w9 b2_w8_12.out); refine cells10 b2_w9_14 fun b2c0 b2c1 b2c2 b2c3 b2c4 b2c5 b2c6 b2c7 b2c8 b2c9 b2l => ?_; have b1_w9_15 := hi_ (blkl w9 b1_w8_13.out); refine cells2 b1_w9_15 fun b1c0 b1c1 b1l => ?_; go_wp2_with fail; clear b2c0 b2c1 b2c2 b2c3 b2c4 b2c5 b2c6 b2c7 b2c8 b2c9 b2l b1c0 b1c1 b1l; refine (ris HA.out _ _ [116, 114, 117, 101] rfl _ (i) hza _ (tv HV HB1) (by decide)).mono ?_; rintro e w10 ⟨rfl, hb10⟩; have l10 := hb10.size; (try simp at l10); replace HB1 := hbl w10 HB1
                  cases c10 : hd (isT [116, 114, 117, 101]) (List.drop (i) ts)
                  rotate_left
                  · have lt10 := lt_y c10; go_wp2; refine bodyPost_ret (v := .bool true) (by simp [results, Tryz.results75, go_sem, *]) rfl ⟨?_, (belh HB1.out)⟩; rw [beg_word c10 (by decide)]
                  · go_wp2_with fail; rw [rounds_succ]
                    have b2_w10_16 := hi_ (blkl w10 b2_w9_14.out); refine cells10 b2_w10_16 fun b2c0 b2c1 b2c2 b2c3 b2c4 b2c5 b2c6 b2c7 b2c8 b2c9 b2l => ?_; have b1_w10_17 := hi_ (blkl w10 b1_w9_15.out); refine cells2 b1_w10_17 fun b1c0 b1c1 b1l => ?_; go_wp2_with fail; clear b2c0 b2c1 b2c2 b2c3 b2c4 b2c5 b2c6 b2c7 b2c8 b2c9 b2l b1c0 b1c1 b1l; refine (ris HA.out _ _ [102, 97, 108, 115, 101] rfl _ (i) hza _ (tv HV HB1) (by decide)).mono ?_; rintro e w11 ⟨rfl, hb11⟩; have l11 := hb11.size; (try simp at l11); replace HB1 := hbl w11 HB1
                    cases c11 : hd (isT [102, 97, 108, 115, 101]) (List.drop (i) ts)
                    rotate_left
                    · have lt11 := lt_y c11; go_wp2; refine bodyPost_ret (v := .bool true) (by simp [results, Tryz.results75, go_sem, *]) rfl ⟨?_, (belh HB1.out)⟩; rw [beg_word c11 (by decide)]
                    · go_wp2_with fail; rw [rounds_succ]
                      go_wp2; refine bodyPost_ret (v := .bool false) (by simp [results, Tryz.results75, go_sem, *]) rfl ⟨?_, (belh HB1.out)⟩
                      rw [beg_not Hk1.out Hk3.out (by intro s hs; simp only [firstL, List.mem_cons, List.not_mem_nil, or_false] at hs; rcases hs with rfl | rfl | rfl | rfl | rfl | rfl | rfl | rfl | rfl | rfl <;> assumption)]
theorem rbegins {ts : List Tok} {en : Nat} (AF : AllFit ts) (v : Value) (z : Int) (i : Nat) (w : World) (hv : TokSl w v ts) (hz : z = (i : Int)) (hi : i <= ts.length) :
    Calls Tryz.prog 75 #[txV v en, .int .i64 z] w fun e w' => e = .returned (.bool (hd begins (ts.drop i))) /\ Below w.heap.size w w' := by
  cases k1 : hd (isK 1) (ts.drop i) with
  | true =>
    have k3 : hd (isK 3) (ts.drop i) = false := by
      cases e : ts.drop i with
      | nil => rfl
      | cons t r => rw [e] at k1; have h' : t.kind = 1 := by simpa [hd, isK] using k1
                    simp [hd, isK, h']
    exact rbegins_1 AF v z i w hv hz hi k1 k3
  | false =>
    cases k3 : hd (isK 3) (ts.drop i) with
    | true => exact rbegins_3 AF v z i w hv hz hi k1 k3
    | false => exact rbegins_n AF v z i w hv hz hi k1 k3
end Go.Proofs.YtlkidgilhlpjhaaGreatDoor
