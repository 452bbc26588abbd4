/-
  The document's own reader of expressions, with any fuel.
  The document's own Deep.
  What the walk of the document's own Parse wants: words and their kinds; a declaration; rows behind calls.
-/
import Derived.Test.YtlkidgilhlpjhaaGreatDoorRi
import Derived.Test.YtlkidgilhlpjhaaGreatDoorRT
import Derived.Test.YtlkidgilhlpjhaaGreatDoorRQ
import Derived.Test.YtlkidgilhlpjhaaGreatDoorRR
import Derived.Test.YtlkidgilhlpjhaaGreatDoorRG
import Derived.Test.YtlkidgilhlpjhaaGreatDoorRc
import Derived.Test.YtlkidgilhlpjhaaGreatDoorRP
import Derived.Test.YtlkidgilhlpjhaaGreatDoorRK
import Derived.Test.YtlkidgilhlpjhaaGreatDoorRL
import Derived.Test.YtlkidgilhlpjhaaGreatDoorRM
import Derived.Test.YtlkidgilhlpjhaaGreatDoorHP
import Derived.Test.YtlkidgilhlpjhaaGreatDoorHS
import Derived.Test.YtlkidgilhlpjhaaGreatDoorRW
import Derived.Test.YtlkidgilhlpjhaaGreatDoorRU
import Derived.Test.YtlkidgilhlpjhaaGreatDoorKk
namespace Go.Proofs.YtlkidgilhlpjhaaGreatDoor
open Go.RowKit

theorem rexpr {ts : List Tok} {en f : Nat} (AF : AllFit ts) (NE : ts ≠ []) (KE : RReads ts en f 34 .expr) (KS : RReads ts en f 17 .seq) (KT : RReadsC ts en f 48 (unitK fun q u => testC q u)) : RReadsC ts en f 34 (body .expr) := by
 intro v z i O w hv hz hi hO hg
 change runC en (P en f) exprC _ = O at hg
 unfold exprC at hg
 cases c_let : hd (isT [108, 101, 116]) (ts.drop i) with
 | true =>
  rw [rsee_y c_let, letC] at hg; obtain ⟨t, ht, hp, hg⟩ := must_y c_let hg; rw [hp] at hg; exact rexpr_let AF NE KE KS v z i O w hv hz (lt_y c_let) hO c_let hg
 | false =>
 rw [rsee_n c_let] at hg
 cases c_if : hd (isT [105, 102]) (ts.drop i) with
 | true =>
  rw [rsee_y c_if, choiceC] at hg; obtain ⟨t, ht, hp, hg⟩ := must_y c_if hg; rw [hp] at hg; exact rexpr_if AF NE KE KS v z i O w hv hz (lt_y c_if) hO c_let c_if hg
 | false =>
 rw [rsee_n c_if] at hg
 cases c_fun : hd (isT [102, 117, 110]) (ts.drop i) with
 | true =>
  rw [rsee_y c_fun, funC] at hg; obtain ⟨t, ht, hp, hg⟩ := must_y c_fun hg; rw [hp] at hg; exact rexpr_fun AF NE KE KS v z i O w hv hz (lt_y c_fun) hO c_let c_if c_fun hg
 | false =>
 rw [rsee_n c_fun] at hg
 cases c_match : hd (isT [109, 97, 116, 99, 104]) (ts.drop i) with
 | true =>
  rw [rsee_y c_match, matchC] at hg; obtain ⟨t, ht, hp, hg⟩ := must_y c_match hg; rw [hp] at hg; exact rexpr_match AF NE KE KS v z i O w hv hz (lt_y c_match) hO c_let c_if c_fun c_match hg
 | false =>
 rw [rsee_n c_match] at hg
 cases ck : hd (isK 1) (ts.drop i) with
 | false =>
  rw [rsee_n ck] at hg; exact rexpr_p1 AF NE KE KT v z i O w hv hz hi hO c_let c_if c_fun c_match ck hg
 | true =>
 rw [rsee_y ck, runC, List.tail_drop] at hg; obtain ⟨t, e, ht, hp, hl⟩ := dr ck
 cases cs : hd (isT [58, 61]) (ts.drop (i + 1)) with
 | true =>
  rw [if_pos cs, storeT, run_here] at hg; rw [show runC en (P en f) _ (ts.drop i) = runC en (P en f) _ (t :: ts.drop (i + 1)) from congrArg _ e, runC] at hg; obtain ⟨t2, ht2, hp2, hg⟩ := must_y cs hg; exact rexpr_store AF NE KE KS v z i O w t hv hz hl hO c_let c_if c_fun c_match ck cs ht hg
 | false =>
  rw [if_neg (by rw [cs]; decide)] at hg
  rcases put_or AF ck hO hg with ⟨hg, hq⟩ | ⟨u, kid, j, hj, h1, h2, h3, h4, h5, h6⟩
  ·exact rexpr_p2 AF NE KE KT v z i O w hv hz hi hO c_let c_if c_fun c_match ck cs hq hg
  ·exact rexpr_put AF NE KE KT v z i O w u kid j hv hz hi hO c_let c_if c_fun c_match ck cs h5 h1 h2 h3 h4 h6

theorem rall {ts : List Tok} {en : Nat} (AF : AllFit ts) (NE : ts ≠ []) : ∀ f, RReads ts en f 34 .expr /\ RReads ts en f 17 .seq /\ RReads ts en f 74 .unit
 | 0 => by
  have h : ∀ F s, RReads ts en 0 F s := by
   intro F s v z i k O w _ _ _ hO hg; exact absurd hg.symm hO
  exact ⟨h _ _, h _ _, h _ _⟩
 | f + 1 => by
  obtain ⟨KE, KS, KU⟩ := rall AF NE f; have c3 := rchain3 AF KU; have c2 := rchain2 AF NE c3; have c1 := rchain1 AF NE c2; have c0 := rchain0 AF NE c1; have KT := rtest AF (RCh.sum c0); exact ⟨RReads.of (rexpr AF NE KE KS KT), RReads.of (rseq AF KE KS), RReads.of (runit AF NE KU KE KS)⟩
end Go.Proofs.YtlkidgilhlpjhaaGreatDoor

namespace Go.Proofs.YtlkidgilhlpjhaaGreatDoor
open Go.RowKit

set_option maxHeartbeats 4000000 in
theorem rdeep_any (N : Nat) : ∀ (x : Ex) (v : Value) (lo : Nat) (w : World), szE x <= N -> ExV lo w v x -> deepE x <= 1000000 →
  Calls Tryz.prog 9 #[v] w fun e w' => e = .returned (.int .i64 (deepE x : Nat)) /\ Below w.heap.size w w' := by
 induction N with
 | zero => intro x v lo w h; cases x; simp [szE] at h
 | succ N ih =>
  intro x v lo w hN hx hd; have hlen := kids_len hx; have HX : Hid (ExV lo w v x) := hx; have hd2 : deepL x.kids + 1 <= 1000000 := by cases x; simp only [deepE] at hd; exact hd
  have IH : Hid (∀ (j : Nat) (y : Ex) (u : Value) (W : World), x.kids[j]? = some y -> Kept lo w W -> ExV lo w u y -> Calls Tryz.prog 9 #[u] W fun e w' => e = .returned (.int .i64 (deepE y : Nat)) /\ Below W.heap.size W w') := fun j y u W hj hK hu =>
   ih y u lo W (by have := szL_mem _ j y hj; cases x; simp only [szE, Ex.kids] at *; omega) (hu.keep hK) (by have := deepL_mem _ j y hj; omega)
  have hform : ∃ (a : Option Addr) (cap : Nat), v = exV x.kind x.text x.other x.n x.pl (.slice a x.kids.length cap) /\ (x.kids = [] \/ ∃ b off, a = some ⟨b, off, none⟩) := by
   cases hx with
   | leaf k t o n p => exact ⟨none, 0, rfl, Or.inl rfl⟩
   | node k t o n p b off cap kids vs => exact ⟨_, cap, rfl, Or.inr ⟨b, off, rfl⟩⟩
  obtain ⟨a, cap, rfl, hab⟩ := hform; unfold exV at *; have hab2 : x.kids.length = 0 \/ ∃ b off, a = some ⟨b, off, none⟩ := hab.imp (fun h => by rw [h]; rfl) id; clear hx hN hd hab; have E : Hid (deepE x = deepL x.kids + 1) := by cases x; rfl
  generalize hn : x.kids.length = n at *
  have HN : Hid (x.kids.length = n) := hn; clear hn
  rcases hab2 with h0 | ⟨b, off, rfl⟩
  ·subst h0; have F : Hid (deepL x.kids = 0) := by show _ = _; rw [List.eq_nil_of_length_eq_zero HN.out]; rfl
   go_enter Tryz.func9, Tryz.ntmps9
   go_wp2
   go_loopw [3, 4] (fun t u wr => u = .int .i64 0 /\ t = .int .i64 0 /\ wr.cell? ⟨w.heap.size, 5, none⟩ = some (.slice a 0 cap) /\ Below w.heap.size w wr) (fun _ _ _ => 0)
   case atStart => exact ⟨rfl, rfl, by go_simp, (Below.refl _ _).alloc (Nat.le_refl _) _⟩
   case round =>
    obtain ⟨rfl, rfl, c5, hb⟩ := hrel; have lt5 := lt_cell c5; go_wp2_with fail
    go_ret
    exact ⟨ret_int (by rw [E.out, F.out]; rfl), hb⟩
  go_enter Tryz.func9, Tryz.ntmps9
  go_wp2
  go_loopw [3, 4] (fun t u wr => ∃ (i q : Nat), i <= n /\ q <= 1000000 /\ u = .int .i64 i /\ t = .int .i64 q /\ Hid (q = deepL (x.kids.take i)) /\ wr.cell? ⟨w.heap.size, 5, none⟩ = some (.slice (some ⟨b, off, none⟩) n cap) /\ Below w.heap.size w wr) (fun _ u _ => n - (intOf u).toNat)
  case atStart => exact ⟨0, 0, Nat.zero_le _, Nat.zero_le _, rfl, rfl, by simp [deepL, Hid], by go_simp, (Below.refl _ _).alloc (Nat.le_refl _) _⟩
  case round =>
   obtain ⟨i, q, hi, hq, rfl, rfl, hs, c5, hb⟩ := hrel; have lt5 := lt_cell c5
   by_cases c : i < n
   ·have c' : (i : Int) < (n : Int) := by omega
    obtain ⟨y, hy⟩ : ∃ y, x.kids[i]? = some y := ⟨_, List.getElem?_eq_getElem (by have := HN.out; omega)⟩; obtain ⟨b2, off2, cap2, nn, tx, ox, ka, ln, cp, ev, hcap, _, hbl, ⟨k0, k1, k2, k3, k4, k5⟩, hky⟩ := kid_at HX.out hy
    simp only [exV, Value.agg.injEq, Array.mk.injEq, List.cons.injEq, Value.slice.injEq, Option.some.injEq, Addr.mk.injEq, and_true, true_and] at ev
    obtain ⟨⟨e1, e2⟩, e3, e4⟩ := ev; rw [← e1] at hbl k0 k1 k2 k3 k4 k5; rw [← e2] at k0 k1 k2 k3 k4 k5; rw [← e3, ← e4] at hcap; clear e1 e2 e3 e4; have HK0 := (hb.cell (p := ⟨b, off + i * 6, none⟩) hbl).trans k0; have HK1 := (hb.cell (p := ⟨b, off + i * 6 + 1, none⟩) hbl).trans k1; have HK2 := (hb.cell (p := ⟨b, off + i * 6 + 2, none⟩) hbl).trans k2; have HK3 := (hb.cell (p := ⟨b, off + i * 6 + 3, none⟩) hbl).trans k3; have HK4 := (hb.cell (p := ⟨b, off + i * 6 + 4, none⟩) hbl).trans k4; have HK5 := (hb.cell (p := ⟨b, off + i * 6 + 5, none⟩) hbl).trans k5; have HC : Hid (∀ W : World, Kept lo w W -> Calls Tryz.prog 9 #[.agg #[.int .i64 (y.kind : Int), .string tx, .string ox, .int .i64 nn, .int .i64 (y.pl : Int), .slice ka ln cp]] W fun e w' => e = .returned (.int .i64 (deepE y : Nat)) /\ Below W.heap.size W w') := fun W hK => IH.out i y _ W hy hK hky; have HS : Hid (deepL (x.kids.take (i + 1)) = max q (deepE y)) := by show _ = _; rw [take_add hy, deepL_add, ← hs.out]
    have hyd : deepE y <= 1000000 := by have := deepL_mem _ i y hy; omega
    have KW : Hid (Kept lo w wr) := ⟨hb.size, fun b' _ h2 => hb.block b' h2⟩; have hbr : b < wr.heap.size := Nat.lt_of_lt_of_le hbl hb.size; clear k0 k1 k2 k3 k4 k5 hky hy; obtain ⟨z, hz⟩ : ∃ z, deepE y = z := ⟨_, rfl⟩; rw [hz] at HC HS hyd; clear hz
    by_cases g : q < z
    ·have g' : (q : Int) < (z : Int) := by omega
     go_wp2_with (go_at_call 9; refine (HC.out _ KW.out).mono ?_; rintro e w1 ⟨rfl, hb1⟩)
     exact ⟨⟨i + 1, z, by omega, hyd, by go_num, rfl, by show z = _; rw [HS.out]; omega, (hb1.cell (p := ⟨w.heap.size, 5, none⟩) lt5).trans c5, bl2 hb hb1⟩, by simp [intOf]; omega⟩
    ·have g' : ¬ (q : Int) < (z : Int) := by omega
     go_wp2_with (go_at_call 9; refine (HC.out _ KW.out).mono ?_; rintro e w1 ⟨rfl, hb1⟩)
     exact ⟨⟨i + 1, q, by omega, hq, by go_num, rfl, by show q = _; rw [HS.out]; omega, (hb1.cell (p := ⟨w.heap.size, 5, none⟩) lt5).trans c5, bl2 hb hb1⟩, by simp [intOf]; omega⟩
   ·have c' : ¬ (i : Int) < (n : Int) := by omega
    have F : Hid (q = deepL x.kids) := by
     show _ = _
     rw [hs.out, List.take_of_length_le (by have := HN.out; omega)]
    go_wp2_with fail
    go_ret
    exact ⟨ret_int (by rw [E.out, ← F.out]; first | rfl | omega | (simp; done)), hb⟩
end Go.Proofs.YtlkidgilhlpjhaaGreatDoor

namespace Go.Proofs.YtlkidgilhlpjhaaGreatDoor
open Go.RowKit

/-! Words and their kinds. -/
theorem head_tok {t : Tok} (h : Good t) : ∃ c r, t.text = c :: r ∧
  ((small c = true /\ t.kind = if keyB t.text = true then 2 else 1) \/ (small c = false /\ digit c = true) \/ t.kind = 4) := by
 obtain ⟨l, n, hs, ht⟩ := h; obtain ⟨c, r, e, _, _, hc⟩ := tok_cases hs; have hn := tok_len hs; obtain ⟨q, hq⟩ : ∃ q, t.text = c :: q := by
  rw [ht, e]
  cases n with
  | zero => omega
  | succ n => exact ⟨_, List.take_succ_cons⟩
 refine ⟨c, q, hq, ?_⟩
 rcases hc with ⟨h0, hl, _, _, hk⟩ | ⟨h0, h1, _⟩ | ⟨_, _, _, _, _, hk⟩ | ⟨_, _, _, _, _, _, hk⟩
 ·refine Or.inl ⟨h0, ?_⟩; rw [hl, tw_take_len] at ht; rw [hk, ← ht]
 ·exact Or.inr (Or.inl ⟨h0, h1⟩)
 ·exact Or.inr (Or.inr hk)
 ·exact Or.inr (Or.inr hk)
theorem sign_shape : ∀ s ∈ signL, (∃ c r, s = c :: r /\ small c = true /\ keyB s = true) \/ (∃ c r, s = c :: r /\ small c = false /\ digit c = false) := by
 have h : signL.all (fun s => match s with | [] => false | c :: r => (small c && keyB (c :: r)) || (!small c && !digit c)) = true := by decide +kernel
 intro s hs; have h1 := List.all_eq_true.1 h s hs
 cases s with
 | nil => cases h1
 | cons c r =>
  simp only [Bool.or_eq_true, Bool.and_eq_true, Bool.not_eq_true'] at h1
  rcases h1 with ⟨a, b⟩ | ⟨a, b⟩
  ·exact Or.inl ⟨c, r, rfl, a, b⟩
  ·exact Or.inr ⟨c, r, rfl, a, b⟩
theorem allfit_of {l : List UInt8} {ts : List Tok} (h : lexT l = .ok ts) : AllFit ts := by
 intro s hs t ht e; obtain ⟨c, r, hc, h⟩ := head_tok (lex_good h t ht)
 rcases sign_shape s hs with ⟨c2, r2, e2, hsm, hk⟩ | ⟨c2, r2, e2, hsm, hdg⟩
 ·rw [e, e2, List.cons.injEq] at hc; rw [← hc.1, e, hk] at h
  rcases h with ⟨_, h⟩ | ⟨h, _⟩ | h
  ·exact Or.inl h
  ·rw [hsm] at h; cases h
  ·exact Or.inr h
 ·rw [e, e2, List.cons.injEq] at hc; rw [← hc.1] at h
  rcases h with ⟨h, _⟩ | ⟨_, h⟩ | h
  ·rw [hsm] at h; cases h
  ·rw [hdg] at h; cases h
  ·exact Or.inr h
theorem ne_lt {ts : List Tok} {i : Nat} (h : i + 1 <= ts.length) : ts ≠ [] := by
 intro e; rw [e] at h; simp at h

/-! A declaration. -/
theorem decl_row {en : Nat} {R : Sym -> List Tok -> Out} {i : Nat} {ts : List Tok} {p : Nat} :
  runC en R (nameC' fun n => kindC 3 fun u => if u.val < 1 \/ 8 < u.val then .lim u.pos else .ret (.mk 3 n [] u.val p [])) (ts.drop (i + 1)) =
  runC en R (nameC' fun n => kindC 3 fun u => if u.val < 1 \/ 8 < u.val then .lim (place en (ts.drop (i + 2))) else .ret (.mk 3 n [] u.val p [])) (ts.drop (i + 1)) := by
 have e2 : ts.drop (i + 2) = (ts.drop (i + 1)).tail := by rw [List.tail_drop]
 rw [e2]
 generalize ts.drop (i + 1) = us
 simp only [nameC', kindC, runC]
 cases us with
 | nil => rfl
 | cons a r =>
  simp only [runC, List.tail_cons]
  cases r with
  | nil => rfl
  | cons b q => simp only [runC]; rfl
theorem rdecl {ts : List Tok} {en f : Nat} (AF : AllFit ts) (NE : ts ≠ []) (FV : ∀ t ∈ ts, t.val <= 999999999) (v : Value) (z : Int) (i : Nat) (w : World) (hv : TokSl w v ts) (hz : z = (i : Int)) (hd0 : hd isDecl (ts.drop i) = true) (hO : runC en (P en f) (declC .ret) (ts.drop i) ≠ .out) :
  Calls Tryz.prog 16 #[txV v en, .int .i64 z] w (DEnd ts en w (runC en (P en f) (declC .ret) (ts.drop i))) := by
 obtain ⟨t, e, ht, hp, hl⟩ := dr hd0; have pl : place en (ts.drop i) = t.pos := by rw [e]; rfl
 have e0 : runC en (P en f) (declC .ret) (ts.drop i) = runC en (P en f) (nameC' fun n =>
   if t.text = [99, 101, 108, 108] then firstC fun v => .ret (.mk 1 n [] v t.pos [])
   else if t.text = [97, 116, 111, 109] then firstC fun v => .ret (.mk 2 n [] v t.pos [])
   else kindC 3 fun u => if u.val < 1 \/ 8 < u.val then .lim u.pos else .ret (.mk 3 n [] u.val t.pos [])) (ts.drop (i + 1)) := by
  rw [show runC en (P en f) (declC .ret) (ts.drop i) = runC en (P en f) (declC .ret) (t :: ts.drop (i + 1)) from congrArg _ e]; rfl
 have hT := fun s => hdT e s
 by_cases t1 : t.text = [99, 101, 108, 108]
 ·simp only [if_pos t1] at e0
  rw [← pl] at e0; exact rdecl_cell AF NE FV v z i _ w hv hz hl hO (by rw [hT, t1]; rfl) (by rw [hT, t1]; rfl) e0.symm
 by_cases t2 : t.text = [97, 116, 111, 109]
 ·simp only [if_neg t1, if_pos t2] at e0
  rw [← pl] at e0; exact rdecl_atom AF NE FV v z i _ w hv hz hl hO (by rw [hT, t2]; rfl) (by rw [hT, t2]; rfl) e0.symm
 simp only [if_neg t1, if_neg t2] at e0
 rw [← pl, decl_row] at e0; have t3 : t.text = [114, 111, 119] := by simpa [isDecl, isT, t1, t2] using hp
 exact rdecl_row AF NE FV v z i _ w hv hz hl hO (by rw [hT, t3]; rfl) (by rw [hT, t3]; rfl) e0.symm
theorem first_facts {en : Nat} {R : Sym -> List Tok -> Out} {k : Int -> Cmd} {ts r : List Tok} {d : Ex} (h : runC en R (firstC k) ts = .ok d r) : ∃ v q, runC en R (k v) q = .ok d r := first_inv h
theorem decl_facts {en : Nat} {R : Sym -> List Tok -> Out} {ts r : List Tok} {d : Ex} (h : runC en R (declC .ret) ts = .ok d r) : d.pl = place en ts /\ (d.kind = 3 -> 1 <= d.n /\ d.n <= 8) := by
 cases ts with
 | nil => cases h
 | cons t q =>
  change runC en R (nameC' fun n =>
   if t.text = [99, 101, 108, 108] then firstC fun v => .ret (.mk 1 n [] v t.pos [])
   else if t.text = [97, 116, 111, 109] then firstC fun v => .ret (.mk 2 n [] v t.pos [])
   else kindC 3 fun u => if u.val < 1 \/ 8 < u.val then .lim u.pos else .ret (.mk 3 n [] u.val t.pos [])) q = _ at h
  rw [nameC'] at h; obtain ⟨a, q2, h⟩ := kind_inv h
  by_cases t1 : t.text = [99, 101, 108, 108]
  ·rw [if_pos t1] at h; obtain ⟨v, q3, h⟩ := first_inv h
   simp only [runC, Out.ok.injEq] at h
   rw [← h.1]; exact ⟨rfl, fun e => by simp [Ex.kind] at e⟩
  rw [if_neg t1] at h
  by_cases t2 : t.text = [97, 116, 111, 109]
  ·rw [if_pos t2] at h; obtain ⟨v, q3, h⟩ := first_inv h
   simp only [runC, Out.ok.injEq] at h
   rw [← h.1]; exact ⟨rfl, fun e => by simp [Ex.kind] at e⟩
  rw [if_neg t2] at h; obtain ⟨u, q3, h⟩ := kind_inv h
  by_cases c : u.val < 1 \/ 8 < u.val
  ·rw [if_pos c] at h; cases h
  ·rw [if_neg c] at h
   simp only [runC, Out.ok.injEq] at h
   rw [← h.1]; refine ⟨rfl, fun _ => ?_⟩
   simp only [Ex.n]
   omega
theorem isDecl_cell {ts : List Tok} (h : hd (isT [99, 101, 108, 108]) ts = true) : hd isDecl ts = true := by
 cases ts with
 | nil => cases h
 | cons t r => simp only [hd] at *; simp [isDecl, h]
theorem isDecl_atom {ts : List Tok} (h : hd (isT [97, 116, 111, 109]) ts = true) : hd isDecl ts = true := by
 cases ts with
 | nil => cases h
 | cons t r => simp only [hd] at *; simp [isDecl, h]
theorem isDecl_row {ts : List Tok} (h : hd (isT [114, 111, 119]) ts = true) : hd isDecl ts = true := by
 cases ts with
 | nil => cases h
 | cons t r => simp only [hd] at *; simp [isDecl, h]
theorem isDecl_no {ts : List Tok} (h : hd (isT [99, 101, 108, 108]) ts = false) (h2 : hd (isT [97, 116, 111, 109]) ts = false) (h3 : hd (isT [114, 111, 119]) ts = false) : hd isDecl ts = false := by
 cases ts with
 | nil => rfl
 | cons t r => simp only [hd] at *; simp [isDecl, h, h2, h3]

/-! Rows and variables behind calls. -/
section
variable {w w' : World} {base e size n b t : Nat} {v : Value} {xs : List Value} {vs : Array Value}
theorem row_bl (h : w.ownsRow base e size v n xs) (hb : Below w.heap.size w w') : w'.ownsRow base e size v n xs := by
 obtain ⟨h1, h2⟩ := h; refine ⟨h1, ?_⟩
 rcases h2 with h2 | ⟨g, cap, cur, e1, e2, e3, e4⟩
 ·exact Or.inl h2
 ·exact Or.inr ⟨g, cap, cur, e1, e2, (hb.block g (lt_of_block e3)).trans e3, e4⟩
theorem row_drew (h : w.ownsRow base e size v n xs) : w.drew.ownsRow base e size v n xs := h
theorem Blk.grown {row : Option Nat} (hg : w.grownBy w' row) (hr : ∀ k, row = some k -> b < k) (h : Blk w b vs t) : Blk w' b vs t :=
 (hg.block b h.lt (fun e => by have := hr b e.symm; omega)).trans h
theorem Below.grown {a : World} {row : Option Nat} (h : Below n a w) (hg : w.grownBy w' row) (hn : n <= w.heap.size) (hr : ∀ k, row = some k -> n <= k) : Below n a w' :=
 h.trans ⟨hg.os, hg.tape, hg.output, hg.size, fun i hi => hg.block i (Nat.lt_of_lt_of_le hi hn) (fun e => by have := hr i e.symm; omega)⟩
theorem ExRow.bl {es : List Ex} (h : ExRow base w v es) (hb : Below w.heap.size w w') : ExRow base w' v es := by
 obtain ⟨us, h1, h2, h3⟩ := h; exact ⟨us, h1, row_bl h2 hb, fun j x u hj hu => (h3 j x u hj hu).keep ⟨hb.size, fun b _ hlt => hb.block b hlt⟩⟩
end
end Go.Proofs.YtlkidgilhlpjhaaGreatDoor
