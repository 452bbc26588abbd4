/-
  The walks of the program's tests of declarations and of a program; a program in memory.
  The walk of Formed: is a program formed?
-/
import Derived.Test.YtkljakeccfnakaaGreatDoorTd
namespace Go.Proofs.YtkljakeccfnakaaGreatDoor
open Go.RowKit

/-- Declarations that lie in a row. -/
def DRow (hi : Nat) (w : World) (b off : Nat) (l : List Dl) : Prop :=
  b < hi ∧ ∀ j d, l[j]? = some d → w.cell? ⟨b, off + j * 4, none⟩ = some (.int .i64 d.kind) ∧ w.cell? ⟨b, off + j * 4 + 1, none⟩ = some (.string ⟨d.name.toArray⟩) ∧ w.cell? ⟨b, off + j * 4 + 2, none⟩ = some (.int .i64 d.n) ∧ w.cell? ⟨b, off + j * 4 + 3, none⟩ = some (.int .i64 d.pl)
theorem DRow.keep {hi : Nat} {w w' : World} {b off : Nat} {l : List Dl} (h : DRow hi w b off l) (hk : Below hi w w') : DRow hi w' b off l :=
  ⟨h.1, fun j d hd => by
    obtain ⟨h0, h1, h2, h3⟩ := h.2 j d hd
    exact ⟨(hk.cell (p := ⟨b, _, none⟩) h.1).trans h0, (hk.cell (p := ⟨b, _, none⟩) h.1).trans h1, (hk.cell (p := ⟨b, _, none⟩) h.1).trans h2, (hk.cell (p := ⟨b, _, none⟩) h.1).trans h3⟩⟩
/-- Declarations, as a slice; expressions, as a slice. -/
structure DSl (hi : Nat) (w : World) (a : Option Addr) (cap : Nat) (l : List Dl) : Prop where
  cap : l.length ≤ cap ∧ l.length ≤ 140737488351232
  names : ∀ d ∈ l, d.name.length ≤ 140737488351232
  row : l = [] ∨ ∃ b off, a = some ⟨b, off, none⟩ ∧ DRow hi w b off l
structure XSl (hi : Nat) (w : World) (a : Option Addr) (cap : Nat) (l : List Px) : Prop where
  cap : l.length ≤ cap ∧ l.length ≤ 140737488351232
  row : l = [] ∨ ∃ b off, a = some ⟨b, off, none⟩ ∧ Row hi w b off l
theorem DSl.keep {hi : Nat} {w w' : World} {a : Option Addr} {cap : Nat} {l : List Dl} (h : DSl hi w a cap l) (hk : Below hi w w') : DSl hi w' a cap l :=
  ⟨h.cap, h.names, h.row.imp id fun ⟨b, off, e, hr⟩ => ⟨b, off, e, hr.keep hk⟩⟩
theorem XSl.keep {hi : Nat} {w w' : World} {a : Option Addr} {cap : Nat} {l : List Px} (h : XSl hi w a cap l) (hk : Below hi w w') : XSl hi w' a cap l :=
  ⟨h.cap, h.row.imp id fun ⟨b, off, e, hr⟩ => ⟨b, off, e, hr.keep hk⟩⟩
/-- The value of a program. -/
def prv (a1 : Option Addr) (n1 c1 : Nat) (a2 : Option Addr) (n2 c2 : Nat) : Value := .agg #[.slice a1 n1 c1, .slice a2 n2 c2]
/-- v is the program of ds and es. -/
def PV (hi : Nat) (w : World) (v : Value) (ds : List Dl) (es : List Px) : Prop :=
  ∃ a1 c1 a2 c2, v = prv a1 ds.length c1 a2 es.length c2 ∧ DSl hi w a1 c1 ds ∧ XSl hi w a2 c2 es
theorem PV.keep {hi : Nat} {w w' : World} {v : Value} {ds : List Dl} {es : List Px} (h : PV hi w v ds es) (hk : Below hi w w') : PV hi w' v ds es := by
  obtain ⟨a1, c1, a2, c2, e, h1, h2⟩ := h
  exact ⟨a1, c1, a2, c2, e, h1.keep hk, h2.keep hk⟩

set_option maxHeartbeats 4000000 in
theorem formedDecl_any (k : Int) (nm : List UInt8) (n p : Int) (w : World) (hs : nm.length ≤ 140737488351232) :
    Calls Tryz.prog 30 #[.agg #[.int .i64 k, .string ⟨nm.toArray⟩, .int .i64 n, .int .i64 p]] w fun e w' => e = .returned (.bool (declB ⟨k, nm, n, p⟩)) ∧ Below w.heap.size w w' := by
  have HN : Hid (∀ W, Calls Tryz.prog 64 #[.string ⟨nm.toArray⟩] W fun e w' => e = .returned (.bool (isNameB nm)) ∧ w' = W) := fun W => isName_any ⟨nm.toArray⟩ W (by rw [Lib.size_eq]; exact hs)
  have E : Hid (declB ⟨k, nm, n, p⟩ = (isNameB nm && (if k == 1 || k == 2 then decide (-999999999 ≤ n) && decide (n ≤ 999999999) else if k == 3 then decide (1 ≤ n) && decide (n ≤ 8) else false))) := rfl
  clear hs
  generalize isNameB nm = b at *
  generalize declB ⟨k, nm, n, p⟩ = z at *
  cases b with
  | false =>
    go_enter Tryz.func30, Tryz.ntmps30
    go_wp2_with (go_at_call 64; refine (HN.out _).mono ?_; rintro e w' ⟨rfl, rfl⟩)
    go_ret
    exact ⟨ret_bool E.out.symm, ba (Below.refl _ _)⟩
  | true =>
    by_cases k1 : k = 1
    · subst k1
      by_cases c1 : -999999999 ≤ n
      · by_cases c2 : n ≤ 999999999
        · go_enter Tryz.func30, Tryz.ntmps30
          go_wp2_with (go_at_call 64; refine (HN.out _).mono ?_; rintro e w' ⟨rfl, rfl⟩)
          go_ret
          exact ⟨ret_bool (by rw [E.out]; first | (simp; done) | (simp; omega)), ba (Below.refl _ _)⟩
        · go_enter Tryz.func30, Tryz.ntmps30
          go_wp2_with (go_at_call 64; refine (HN.out _).mono ?_; rintro e w' ⟨rfl, rfl⟩)
          go_ret
          exact ⟨ret_bool (by rw [E.out]; first | (simp; done) | (simp; omega)), ba (Below.refl _ _)⟩
      · go_enter Tryz.func30, Tryz.ntmps30
        go_wp2_with (go_at_call 64; refine (HN.out _).mono ?_; rintro e w' ⟨rfl, rfl⟩)
        go_ret
        exact ⟨ret_bool (by rw [E.out]; first | (simp; done) | (simp; omega)), ba (Below.refl _ _)⟩
    have q1 : (k == 1) = false := by rw [beq_eq_false_iff_ne]; exact k1
    by_cases k2 : k = 2
    · subst k2
      clear k1 q1
      by_cases c1 : -999999999 ≤ n
      · by_cases c2 : n ≤ 999999999
        · go_enter Tryz.func30, Tryz.ntmps30
          go_wp2_with (go_at_call 64; refine (HN.out _).mono ?_; rintro e w' ⟨rfl, rfl⟩)
          go_ret
          exact ⟨ret_bool (by rw [E.out]; first | (simp; done) | (simp; omega)), ba (Below.refl _ _)⟩
        · go_enter Tryz.func30, Tryz.ntmps30
          go_wp2_with (go_at_call 64; refine (HN.out _).mono ?_; rintro e w' ⟨rfl, rfl⟩)
          go_ret
          exact ⟨ret_bool (by rw [E.out]; first | (simp; done) | (simp; omega)), ba (Below.refl _ _)⟩
      · go_enter Tryz.func30, Tryz.ntmps30
        go_wp2_with (go_at_call 64; refine (HN.out _).mono ?_; rintro e w' ⟨rfl, rfl⟩)
        go_ret
        exact ⟨ret_bool (by rw [E.out]; first | (simp; done) | (simp; omega)), ba (Below.refl _ _)⟩
    have q2 : (k == 2) = false := by rw [beq_eq_false_iff_ne]; exact k2
    by_cases k3 : k = 3
    · subst k3
      clear k1 q1 k2 q2
      by_cases c1 : 1 ≤ n
      · by_cases c2 : n ≤ 8
        · go_enter Tryz.func30, Tryz.ntmps30
          go_wp2_with (go_at_call 64; refine (HN.out _).mono ?_; rintro e w' ⟨rfl, rfl⟩)
          go_ret
          exact ⟨ret_bool (by rw [E.out]; first | (simp; done) | (simp; omega)), ba (Below.refl _ _)⟩
        · go_enter Tryz.func30, Tryz.ntmps30
          go_wp2_with (go_at_call 64; refine (HN.out _).mono ?_; rintro e w' ⟨rfl, rfl⟩)
          go_ret
          exact ⟨ret_bool (by rw [E.out]; first | (simp; done) | (simp; omega)), ba (Below.refl _ _)⟩
      · go_enter Tryz.func30, Tryz.ntmps30
        go_wp2_with (go_at_call 64; refine (HN.out _).mono ?_; rintro e w' ⟨rfl, rfl⟩)
        go_ret
        exact ⟨ret_bool (by rw [E.out]; first | (simp; done) | (simp; omega)), ba (Below.refl _ _)⟩
    have q3 : (k == 3) = false := by rw [beq_eq_false_iff_ne]; exact k3
    have E2 : Hid (z = false) := by show _ = _; rw [E.out, q1, q2, q3]; rfl
    clear k1 k2 k3 E
    go_enter Tryz.func30, Tryz.ntmps30
    go_wp2_with (go_at_call 64; refine (HN.out _).mono ?_; rintro e w' ⟨rfl, rfl⟩)
    go_ret
    exact ⟨ret_bool E2.out.symm, ba (Below.refl _ _)⟩
set_option maxHeartbeats 1000000 in
theorem sizeD_any (k : Int) (nm : List UInt8) (n p : Int) (w : World) :
    Calls Tryz.prog 31 #[.agg #[.int .i64 k, .string ⟨nm.toArray⟩, .int .i64 n, .int .i64 p]] w fun e w' => e = .returned (.int .i64 (sizeD ⟨k, nm, n, p⟩)) ∧ Below w.heap.size w w' := by
  by_cases k3 : k = 3
  · subst k3
    go_enter Tryz.func31, Tryz.ntmps31
    go_wp2_with fail
    go_ret
    exact ⟨rfl, ba (Below.refl _ _)⟩
  have q3 : (k == 3) = false := by rw [beq_eq_false_iff_ne]; exact k3
  have E2 : Hid (sizeD ⟨k, nm, n, p⟩ = 1) := by show _ = _; unfold sizeD; rw [q3]; rfl
  clear k3
  go_enter Tryz.func31, Tryz.ntmps31
  go_wp2_with fail
  go_ret
  exact ⟨ret_int E2.out.symm, ba (Below.refl _ _)⟩
end Go.Proofs.YtkljakeccfnakaaGreatDoor

namespace Go.Proofs.YtkljakeccfnakaaGreatDoor
open Go.RowKit

theorem sizesD_add (l : List Dl) (d : Dl) : sizesD (l ++ [d]) = sizesD l + sizeD d := by
  unfold sizesD; rw [List.foldl_append]; rfl
theorem sizeD_le {d : Dl} (h : declB d = true) : 1 ≤ sizeD d ∧ sizeD d ≤ 8 := by
  unfold declB at h
  simp only [Bool.and_eq_true] at h
  have h := h.2
  unfold sizeD
  split
  · rename_i h3
    have e : d.kind = 3 := by simpa using h3
    rw [e] at h
    simp at h
    omega
  · omega
theorem all_take {α : Type} {p : α → Bool} {l : List α} {i : Nat} {y : α} (h : l[i]? = some y) (h1 : (l.take i).all p = true) (h2 : p y = true) : (l.take (i + 1)).all p = true := by
  rw [takeX_add h, List.all_append, h1, List.all_cons, h2]; rfl
theorem all_no {α : Type} {p : α → Bool} {l : List α} {i : Nat} {y : α} (h : l[i]? = some y) (h2 : p y = false) : l.all p = false := by
  rw [List.all_eq_false]; exact ⟨y, List.mem_of_getElem? h, by rw [h2]; simp⟩
theorem all_whole {α : Type} {p : α → Bool} {l : List α} {i : Nat} (hi : l.length ≤ i) (h1 : (l.take i).all p = true) : l.all p = true := by rwa [List.take_of_length_le hi] at h1

/-- The tests of the elements, told ahead. -/
structure ProgK2 (hi : Nat) (w : World) (a1 a2 : Option Addr) (ds : List Dl) (es : List Px) : Prop where
  d : ds = [] ∨ ∃ b off, a1 = some ⟨b, off, none⟩ ∧ DRow hi w b off ds
  e : es = [] ∨ ∃ b off, a2 = some ⟨b, off, none⟩ ∧ Row hi w b off es
  names : ∀ x ∈ ds, x.name.length ≤ 140737488351232
  hhi : hi ≤ w.heap.size

set_option maxHeartbeats 8000000 in
theorem formed_walk (ds : List Dl) (es : List Px) (a1 a2 : Option Addr) (n1 c1 n2 c2 hi : Nat) (w : World) (h1 : ds.length = n1) (h2 : es.length = n2) (K : Hid (ProgK2 hi w a1 a2 ds es)) (q1 : n1 ≤ 8) (q2 : 1 ≤ n2) (q3 : n2 ≤ 3) :
    Calls Tryz.prog 13 #[.agg #[.slice a1 n1 c1, .slice a2 n2 c2]] w fun e w' => e = .returned (.bool (ds.all declB && es.all (formB 60) && decide (sizesD ds ≤ 16))) ∧ Below w.heap.size w w' := by
  have H1 : Hid (ds.length = n1) := h1
  have H2 : Hid (es.length = n2) := h2
  clear h1 h2
  have z1 : ¬ (n1 : Int) > 8 := by omega
  have z2 : ¬ (n2 : Int) < 1 := by omega
  have z3 : ¬ (n2 : Int) > 3 := by omega
  go_enter Tryz.func13, Tryz.ntmps13
  go_wp2_with fail
  go_loopw [3, 27] (fun t u wr => ∃ (i : Nat) (q : Int), i ≤ n1 ∧ u = .int .i64 i ∧ t = .int .i64 q ∧ 0 ≤ q ∧ q ≤ 8 * i ∧ Hid ((ds.take i).all declB = true ∧ q = sizesD (ds.take i)) ∧ wr.cell? ⟨w.heap.size, 1, none⟩ = some (.slice a2 n2 c2) ∧ Below w.heap.size w wr) (fun _ u _ => n1 - (intOf u).toNat)
  case atStart => exact ⟨0, 0, Nat.zero_le _, rfl, rfl, by omega, by omega, ⟨by simp, rfl⟩, by go_simp, ba (Below.refl _ _)⟩
  case round =>
    obtain ⟨i, q, hi', rfl, rfl, hq0, hq8, hs, x1, hb⟩ := hrel
    have lx := lt_cell x1
    by_cases c : i < n1
    · have c' : (i : Int) < (n1 : Int) := by omega
      rcases K.out.d with h0 | ⟨b, off, rfl, hR⟩
      · exact absurd H1.out (by rw [h0]; simp; omega)
      obtain ⟨d, hd⟩ : ∃ d, ds[i]? = some d := ⟨_, List.getElem?_eq_getElem (by have := H1.out; omega)⟩
      have hbl : b < w.heap.size := Nat.lt_of_lt_of_le hR.1 K.out.hhi
      obtain ⟨k0, k1, k2, k3⟩ := hR.2 i d hd
      have K0 := (hb.cell (p := ⟨b, _, none⟩) hbl).trans k0
      have K1 := (hb.cell (p := ⟨b, _, none⟩) hbl).trans k1
      have K2 := (hb.cell (p := ⟨b, _, none⟩) hbl).trans k2
      have K3 := (hb.cell (p := ⟨b, _, none⟩) hbl).trans k3
      have HD : Hid (ds[i]? = some d) := hd
      have HF : Hid (∀ W, Calls Tryz.prog 30 #[.agg #[.int .i64 d.kind, .string ⟨d.name.toArray⟩, .int .i64 d.n, .int .i64 d.pl]] W fun e w' => e = .returned (.bool (declB d)) ∧ Below W.heap.size W w') := fun W => formedDecl_any d.kind d.name d.n d.pl W (K.out.names d (List.mem_of_getElem? hd))
      have HZ : Hid (∀ W, Calls Tryz.prog 31 #[.agg #[.int .i64 d.kind, .string ⟨d.name.toArray⟩, .int .i64 d.n, .int .i64 d.pl]] W fun e w' => e = .returned (.int .i64 (sizeD d)) ∧ Below W.heap.size W w') := fun W => sizeD_any d.kind d.name d.n d.pl W
      have hbr : b < wr.heap.size := Nat.lt_of_lt_of_le hbl hb.size
      have KW : Hid (Below w.heap.size w wr) := hb
      have X1 : Hid (wr.cell? ⟨w.heap.size, 1, none⟩ = some (.slice a2 n2 c2)) := x1
      clear hR hd k0 k1 k2 k3 hb x1
      obtain ⟨z, hz⟩ : ∃ z, declB d = z := ⟨_, rfl⟩
      have HB : Hid (declB d = z) := hz
      rw [hz] at HF
      cases z with
      | false =>
        have E : Hid ((ds.all declB && es.all (formB 60) && decide (sizesD ds ≤ 16)) = false) := by show _ = _; rw [all_no HD.out hz]; rfl
        clear hz
        go_wp2_with (go_at_call 30; refine (HF.out _).mono ?_; rintro e w3 ⟨rfl, hb3⟩)
        go_ret
        exact ⟨ret_bool E.out.symm, bl2 (ba KW.out) hb3⟩
      | true =>
        have hsz := sizeD_le hz
        have E : Hid ((ds.take (i + 1)).all declB = true ∧ q + sizeD d = sizesD (ds.take (i + 1))) := ⟨all_take HD.out hs.out.1 hz, by rw [takeX_add HD.out, sizesD_add, ← hs.out.2]⟩
        clear hz
        generalize sizeD d = sd at *
        go_wp2_with fail
        refine (HF.out _).mono ?_
        rintro e w3 ⟨rfl, hb3⟩
        have B0 : w3.cell? ⟨wr.heap.size, 0, none⟩ = some (.int .i64 d.kind) := (hb3.cell (p := ⟨wr.heap.size, 0, none⟩) (by simp)).trans (by go_simp)
        have B1 : w3.cell? ⟨wr.heap.size, 1, none⟩ = some (.string ⟨d.name.toArray⟩) := (hb3.cell (p := ⟨wr.heap.size, 1, none⟩) (by simp)).trans (by go_simp)
        have B2 : w3.cell? ⟨wr.heap.size, 2, none⟩ = some (.int .i64 d.n) := (hb3.cell (p := ⟨wr.heap.size, 2, none⟩) (by simp)).trans (by go_simp)
        have B3 : w3.cell? ⟨wr.heap.size, 3, none⟩ = some (.int .i64 d.pl) := (hb3.cell (p := ⟨wr.heap.size, 3, none⟩) (by simp)).trans (by go_simp)
        have HB3 : Hid (Below w.heap.size w w3) := bl2 (ba KW.out) hb3
        have X3 : Hid (w3.cell? ⟨w.heap.size, 1, none⟩ = some (.slice a2 n2 c2)) := (hb3.cell (p := ⟨w.heap.size, 1, none⟩) (by simp; omega)).trans (by rw [World.cell?_alloc_old _ _ _ (by dsimp only; omega)]; exact X1.out)
        have lw3 : wr.heap.size < w3.heap.size := lt_cell B0
        clear hb3 K0 K1 K2 K3
        go_wp2_with fail
        refine (HZ.out _).mono ?_
        rintro e w4 ⟨rfl, hb4⟩
        have X4 := (hb4.cell (p := ⟨w.heap.size, 1, none⟩) (lt_cell X3.out)).trans X3.out
        go_wp2_with fail
        go_roundw
        case rel => exact ⟨i + 1, q + sd, by omega, by go_num, by go_num, by omega, by omega, E.out, X4, bl2 HB3.out hb4⟩
        case measure => simp [intOf]; omega
    · have c' : ¬ (i : Int) < (n1 : Int) := by omega
      have A1 : Hid (ds.all declB = true ∧ q = sizesD ds) := by
        have := hs.out
        have e : ds.take i = ds := List.take_of_length_le (by have := H1.out; omega)
        rw [e] at this
        exact this
      clear hs
      go_wp2_with fail
      go_loopw [42] (fun u wr => ∃ (i : Nat), i ≤ n2 ∧ u = .int .i64 i ∧ Hid ((es.take i).all (formB 60) = true) ∧ Below w.heap.size w wr) (fun u _ => n2 - (intOf u).toNat)
      case atStart => exact ⟨0, Nat.zero_le _, rfl, by simp [Hid], hb⟩
      clear hb x1 lx c c' hi'
      case round =>
        obtain ⟨i, hi', rfl, hs, hb⟩ := hrel
        by_cases c : i < n2
        · have c' : (i : Int) < (n2 : Int) := by omega
          rcases K.out.e with h0 | ⟨b, off, rfl, hR⟩
          · exact absurd H2.out (by rw [h0]; simp; omega)
          obtain ⟨y, hy⟩ : ∃ y, es[i]? = some y := ⟨_, List.getElem?_eq_getElem (by have := H2.out; omega)⟩
          have hbl : b < w.heap.size := Nat.lt_of_lt_of_le hR.1 K.out.hhi
          obtain ⟨ka, cp2, hkc, hky⟩ := hR.2 i y hy
          obtain ⟨HK0, HK1, HK2, HK3, HK4, HK5⟩ := hkc.keep hb hbl
          have HC : Hid (∀ W : World, Below w.heap.size w W → Calls Tryz.prog 32 #[.agg #[.int .i64 y.kind, .string ⟨y.text.toArray⟩, .string ⟨y.other.toArray⟩, .int .i64 y.n, .int .i64 y.pl, .slice ka y.kids.length cp2], .int .i64 60] W fun e w' => e = .returned (.bool (formB 60 y)) ∧ Below W.heap.size W w') := fun W hW => formed_any _ y _ hi W 60 (Nat.le_refl _) (Nat.le_trans K.out.hhi hW.size) (hky.keep (hW.mono K.out.hhi)) (by omega)
          have HY : Hid (es[i]? = some y) := hy
          have hbr : b < wr.heap.size := Nat.lt_of_lt_of_le hbl hb.size
          have KW : Hid (Below w.heap.size w wr) := hb
          clear hkc hky hy hb hR
          generalize y.kids.length = yl at *
          obtain ⟨z, hz⟩ : ∃ z, formB 60 y = z := ⟨_, rfl⟩
          have HZ : Hid (formB 60 y = z) := hz
          rw [hz] at HC
          clear hz
          cases z with
          | false =>
            have E : Hid ((ds.all declB && es.all (formB 60) && decide (sizesD ds ≤ 16)) = false) := by show _ = _; rw [all_no HY.out HZ.out, Bool.and_false, Bool.false_and]
            go_wp2_with (go_at_call 32; refine (HC.out _ (ba KW.out)).mono ?_; rintro e w3 ⟨rfl, hb3⟩)
            go_ret
            exact ⟨ret_bool E.out.symm, bl2 (ba KW.out) hb3⟩
          | true =>
            have E : Hid ((es.take (i + 1)).all (formB 60) = true) := all_take HY.out hs.out HZ.out
            go_wp2_with (go_at_call 32; refine (HC.out _ (ba KW.out)).mono ?_; rintro e w3 ⟨rfl, hb3⟩)
            go_roundw
            case rel => exact ⟨i + 1, by omega, by go_num, E.out, bl2 (ba KW.out) hb3⟩
            case measure => simp [intOf]; omega
        · have c' : ¬ (i : Int) < (n2 : Int) := by omega
          have E : Hid ((ds.all declB && es.all (formB 60) && decide (sizesD ds ≤ 16)) = decide (q ≤ 16)) := by
            show _ = _
            rw [A1.out.1, all_whole (by have := H2.out; omega) hs.out, ← A1.out.2]; rfl
          go_wp2_with fail
          go_ret
          exact ⟨ret_bool E.out.symm, hb⟩
set_option maxHeartbeats 2000000 in
theorem formed_great (a1 a2 : Option Addr) (n1 c1 n2 c2 : Nat) (w : World) (h : ¬ (n1 ≤ 8 ∧ 1 ≤ n2 ∧ n2 ≤ 3)) :
    Calls Tryz.prog 13 #[.agg #[.slice a1 n1 c1, .slice a2 n2 c2]] w fun e w' => e = .returned (.bool false) ∧ Below w.heap.size w w' := by
  by_cases z1 : (n1 : Int) > 8
  · go_enter Tryz.func13, Tryz.ntmps13
    go_wp2_with fail
    go_ret
    exact ⟨rfl, ba (Below.refl _ _)⟩
  by_cases z2 : (n2 : Int) < 1
  · go_enter Tryz.func13, Tryz.ntmps13
    go_wp2_with fail
    go_ret
    exact ⟨rfl, ba (Below.refl _ _)⟩
  have z3 : (n2 : Int) > 3 := by omega
  clear h
  go_enter Tryz.func13, Tryz.ntmps13
  go_wp2_with fail
  go_ret
  exact ⟨rfl, ba (Below.refl _ _)⟩
/-- Formed tells whether a program is formed. -/
theorem formedP_any (ds : List Dl) (es : List Px) (v : Value) (hi : Nat) (w : World) (h : PV hi w v ds es) (hhi : hi ≤ w.heap.size) :
    Calls Tryz.prog 13 #[v] w fun e w' => e = .returned (.bool (progB ds es)) ∧ Below w.heap.size w w' := by
  obtain ⟨a1, c1, a2, c2, rfl, hd, he⟩ := h
  unfold progB
  by_cases hq : ds.length ≤ 8 ∧ 1 ≤ es.length ∧ es.length ≤ 3
  · rw [decide_eq_true hq.1, decide_eq_true hq.2.1, decide_eq_true hq.2.2, Bool.true_and, Bool.true_and, Bool.true_and]
    exact formed_walk ds es a1 a2 _ c1 _ c2 hi w rfl rfl ⟨hd.row, he.row, hd.names, hhi⟩ hq.1 hq.2.1 hq.2.2
  · have e : (decide (ds.length ≤ 8) && decide (1 ≤ es.length) && decide (es.length ≤ 3) && ds.all declB && es.all (formB 60) && decide (sizesD ds ≤ 16)) = false := by
      rw [← Bool.not_eq_true]
      simp only [Bool.and_eq_true, decide_eq_true_iff]
      exact fun h => hq ⟨h.1.1.1.1.1, h.1.1.1.1.2, h.1.1.1.2⟩
    rw [e]
    exact formed_great _ _ _ _ _ _ w hq
end Go.Proofs.YtkljakeccfnakaaGreatDoor
