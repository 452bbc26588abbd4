/-
  What the shelf of the library has at this program: builders of strings, numbers and truths as texts, texts cut at a sign.
  The walks of the library's WriteString and what it calls, at this program; frames of builders.
  Expressions of any kind in memory; the walks of the document's own Deep, Size and short.
  A builder that the call itself made, and what lies beside it; numbers and truths as texts; texts cut at a sign.
-/
import Derived.Shelf.Small.Wraps
import Derived.Shelf.Strings.BuilderK
import Derived.Shelf.Strconv.Itoa3
import Derived.Shelf.Strings.Split
import Derived.Shelf.Strings.SplitShaped
import Derived.Shelf.LaysM
import Derived.Test.YtkljakeccfnakaaGreatDoorProg
import Derived.Test.YtkljakeccfnakaaGreatDoorHS
import Derived.Test.YtkljakeccfnakaaGreatDoorTa
import Derived.Test.YtkljakeccfnakaaGreatDoorHP
namespace Go.Proofs.YtkljakeccfnakaaGreatDoor
open Go.Shelf
def Tryz.lays169_ren : Go.Shelf.Ren := ⟨fun | 169 => 26 | n => n, fun | 70 => 51 | 9 => 9 | 0 => 0 | 72 => 54 | 37 => 52 | 127 => 100 | 3 => 3 | 5 => 5 | n => n, fun | n => n⟩
theorem Tryz.lays169 : Go.Proofs.Lays.n169 Tryz.prog Tryz.lays169_ren := {
  mixed := by kernel_rfl
  f169 := Tryz.func26.trans (congrArg some (by kernel_rfl))
  t0 := Tryz.underlying0
  a0 := Tryz.isAgg0
  z0 := Tryz.sizeOf0
  v0 := Tryz.zeroValue0
  t3 := Tryz.underlying3
  a3 := Tryz.isAgg3
  z3 := Tryz.sizeOf3
  v3 := Tryz.zeroValue3
  t9 := Tryz.underlying9
  a9 := Tryz.isAgg9
  z9 := Tryz.sizeOf9
  v9 := Tryz.zeroValue9
  t37 := Tryz.underlying52
  a37 := Tryz.isAgg52
  z37 := Tryz.sizeOf52
  v37 := Tryz.zeroValue52
  t70 := Tryz.underlying51
  a70 := Tryz.isAgg51
  z70 := Tryz.sizeOf51
  v70 := Tryz.zeroValue51
  t72 := Tryz.underlying54
  a72 := Tryz.isAgg54
  z72 := Tryz.sizeOf54
  v72 := Tryz.zeroValue54
  t127 := Tryz.underlying100
  a127 := Tryz.isAgg100
  z127 := Tryz.sizeOf100
  v127 := Tryz.zeroValue100 }
theorem Tryz.Builder_Extra_169 : Builder.Extra Tryz.prog Tryz.lays169_ren := {
  sizeBuilder := by kernel_rfl
  liesBuilder := by kernel_rfl
  t5 := Tryz.underlying5
  a5 := Tryz.isAgg5
  z5 := Tryz.sizeOf5
  v5 := Tryz.zeroValue5
  infoByte := by kernel_rfl
  cellsByte := by kernel_rfl
  sizeByte := by kernel_rfl
  neB5 := by decide }
open Go.RowKit in
theorem Tryz.Builder_String_any_k (B b : Nat) (l : List UInt8) (w : World) (h : Lib.IsBuilderF 54 5 B b (Lib.byteCells l) w) (hBw : B ≤ w.heap.size) :
    Calls Tryz.prog 26 #[.pointer (some ⟨b, 0, none⟩)] w fun e w' => e = .returned (.string ⟨l.toArray⟩) ∧ (Lib.IsBuilderF 54 5 B b (Lib.byteCells l) w' ∧ Below B w w' ∧ Lib.OthersKept 5 (some b) w w') := Any.Builder_String_any_k Tryz.lays169 Tryz.Builder_Extra_169 B b l w h hBw
def Tryz.lays121_ren : Go.Shelf.Ren := ⟨fun | 121 => 92 | 214 => 121 | n => n, fun | 4 => 4 | 9 => 9 | n => n, fun | n => n⟩
theorem Tryz.lays121 : Go.Proofs.Lays.n121 Tryz.prog Tryz.lays121_ren := {
  mixed := by kernel_rfl
  f121 := Tryz.func92.trans (congrArg some (by kernel_rfl))
  f214 := Tryz.func121.trans (congrArg some (by kernel_rfl))
  t4 := Tryz.underlying4
  a4 := Tryz.isAgg4
  z4 := Tryz.sizeOf4
  v4 := Tryz.zeroValue4
  t9 := Tryz.underlying9
  a9 := Tryz.isAgg9
  z9 := Tryz.sizeOf9
  v9 := Tryz.zeroValue9 }
open Go.RowKit in
theorem Tryz.strconv_FormatBool (b : Bool) (w : World) :
    Calls Tryz.prog 92 #[.bool b] w fun e w' => e = .returned (.string ⟨(Lib.formatBool b).toArray⟩) ∧ w' = w := Any.strconv_FormatBool Tryz.lays121 b w
def Tryz.laysM171_ren : Go.Shelf.Ren := ⟨fun | 171 => 54 | 243 => 90 | 246 => 117 | 283 => 133 | 284 => 134 | 285 => 135 | 286 => 136 | 129 => 153 | 317 => 152 | 318 => 154 | 319 => 155 | 320 => 156 | 337 => 172 | 338 => 173 | n => n, fun | 3 => 3 | 9 => 9 | 2 => 2 | 4 => 4 | 171 => 155 | 0 => 0 | 53 => 156 | 37 => 52 | 5 => 5 | 173 => 159 | 212 => 168 | 51 => 169 | 20 => 20 | 213 => 170 | 46 => 171 | 232 => 197 | 233 => 198 | n => n, fun | 17 => 0 | 18 => 6 | 19 => 7 | n => n⟩
theorem Tryz.laysM171 : Go.Proofs.LaysM.n171 Tryz.prog Tryz.laysM171_ren := {
  mixed := by kernel_rfl
  f129 := Tryz.func153.trans (congrArg some (by kernel_rfl))
  f171 := Tryz.func54.trans (congrArg some (by kernel_rfl))
  f243 := Tryz.func90.trans (congrArg some (by kernel_rfl))
  f246 := Tryz.func117.trans (congrArg some (by kernel_rfl))
  f283 := Tryz.func133.trans (congrArg some (by kernel_rfl))
  f284 := Tryz.func134.trans (congrArg some (by kernel_rfl))
  f285 := Tryz.func135.trans (congrArg some (by kernel_rfl))
  f286 := Tryz.func136.trans (congrArg some (by kernel_rfl))
  f317 := Tryz.func152.trans (congrArg some (by kernel_rfl))
  f318 := Tryz.func154.trans (congrArg some (by kernel_rfl))
  f319 := Tryz.func155.trans (congrArg some (by kernel_rfl))
  f320 := Tryz.func156.trans (congrArg some (by kernel_rfl))
  f337 := Tryz.func172.trans (congrArg some (by kernel_rfl))
  f338 := Tryz.func173.trans (congrArg some (by kernel_rfl))
  t0 := Tryz.underlying0
  a0 := Tryz.isAgg0
  z0 := Tryz.sizeOf0
  v0 := Tryz.zeroValue0
  t2 := Tryz.underlying2
  a2 := Tryz.isAgg2
  z2 := Tryz.sizeOf2
  v2 := Tryz.zeroValue2
  t3 := Tryz.underlying3
  a3 := Tryz.isAgg3
  z3 := Tryz.sizeOf3
  v3 := Tryz.zeroValue3
  t4 := Tryz.underlying4
  a4 := Tryz.isAgg4
  z4 := Tryz.sizeOf4
  v4 := Tryz.zeroValue4
  t5 := Tryz.underlying5
  a5 := Tryz.isAgg5
  z5 := Tryz.sizeOf5
  v5 := Tryz.zeroValue5
  t9 := Tryz.underlying9
  a9 := Tryz.isAgg9
  z9 := Tryz.sizeOf9
  v9 := Tryz.zeroValue9
  t20 := Tryz.underlying20
  a20 := Tryz.isAgg20
  z20 := Tryz.sizeOf20
  v20 := Tryz.zeroValue20
  t37 := Tryz.underlying52
  a37 := Tryz.isAgg52
  z37 := Tryz.sizeOf52
  v37 := Tryz.zeroValue52
  t46 := Tryz.underlying171
  a46 := Tryz.isAgg171
  z46 := Tryz.sizeOf171
  v46 := Tryz.zeroValue171
  t51 := Tryz.underlying169
  a51 := Tryz.isAgg169
  z51 := Tryz.sizeOf169
  v51 := Tryz.zeroValue169
  t53 := Tryz.underlying156
  a53 := Tryz.isAgg156
  z53 := Tryz.sizeOf156
  v53 := Tryz.zeroValue156
  t171 := Tryz.underlying155
  a171 := Tryz.isAgg155
  z171 := Tryz.sizeOf155
  v171 := Tryz.zeroValue155
  t173 := Tryz.underlying159
  a173 := Tryz.isAgg159
  z173 := Tryz.sizeOf159
  v173 := Tryz.zeroValue159
  t212 := Tryz.underlying168
  a212 := Tryz.isAgg168
  z212 := Tryz.sizeOf168
  v212 := Tryz.zeroValue168
  t213 := Tryz.underlying170
  a213 := Tryz.isAgg170
  z213 := Tryz.sizeOf170
  t232 := Tryz.underlying197
  a232 := Tryz.isAgg197
  z232 := Tryz.sizeOf197
  v232 := Tryz.zeroValue197
  t233 := Tryz.underlying198
  a233 := Tryz.isAgg198
  z233 := Tryz.sizeOf198
  v233 := Tryz.zeroValue198
  g17 := by kernel_rfl
  g18 := by kernel_rfl
  g19 := by kernel_rfl
  i0 := by kernel_rfl
  i2 := by kernel_rfl
  i3 := by kernel_rfl
  i4 := by kernel_rfl
  i5 := by kernel_rfl
  i9 := by kernel_rfl
  i20 := by kernel_rfl
  i37 := by kernel_rfl
  i46 := by kernel_rfl
  i51 := by kernel_rfl
  i53 := by kernel_rfl
  i171 := by kernel_rfl
  i173 := by kernel_rfl
  i212 := by kernel_rfl
  i232 := by kernel_rfl
  i233 := by kernel_rfl
  m17 := by kernel_rfl
  m18 := by kernel_rfl
  m19 := by kernel_rfl }
open Go.RowKit Go.Sort Go.Lib in
theorem Tryz.strconv_Itoa (n : Int) (h0 : -9223372036854775808 ≤ n) (h1 : n ≤ 9223372036854775807) (w : World) (htab : Lib.TabIs Tryz.prog w "internal/strconv.uint64pow10" .u64 Lib.pow10Tab) :
    Calls Tryz.prog 54 #[.int .i64 n] w fun e w' => e = .returned (.string ⟨(Lib.itoa n).toArray⟩) ∧ ∃ k os, w' = grow (w.drewN k) os := Any.strconv_Itoa Tryz.laysM171 n h0 h1 w htab
def Tryz.lays146_ren : Go.Shelf.Ren := ⟨fun | 146 => 56 | 221 => 91 | 268 => 118 | 138 => 119 | 143 => 120 | 195 => 137 | 197 => 138 | 218 => 139 | 219 => 140 | 260 => 157 | 217 => 141 | 225 => 158 | 224 => 159 | 267 => 160 | 266 => 161 | 314 => 174 | n => n, fun | 9 => 9 | 31 => 86 | 3 => 3 | 4 => 4 | 0 => 0 | 105 => 161 | 21 => 21 | 5 => 5 | 46 => 171 | 119 => 181 | 139 => 184 | 138 => 183 | 146 => 185 | 51 => 169 | n => n, fun | 1 => 1 | 3 => 2 | 4 => 3 | n => n⟩
theorem Tryz.lays146 : Go.Proofs.Lays.n146 Tryz.prog Tryz.lays146_ren := {
  mixed := by kernel_rfl
  f138 := Tryz.func119.trans (congrArg some (by kernel_rfl))
  f143 := Tryz.func120.trans (congrArg some (by kernel_rfl))
  f146 := Tryz.func56.trans (congrArg some (by kernel_rfl))
  f195 := Tryz.func137.trans (congrArg some (by kernel_rfl))
  f197 := Tryz.func138.trans (congrArg some (by kernel_rfl))
  f217 := Tryz.func141.trans (congrArg some (by kernel_rfl))
  f218 := Tryz.func139.trans (congrArg some (by kernel_rfl))
  f219 := Tryz.func140.trans (congrArg some (by kernel_rfl))
  f221 := Tryz.func91.trans (congrArg some (by kernel_rfl))
  f224 := Tryz.func159.trans (congrArg some (by kernel_rfl))
  f225 := Tryz.func158.trans (congrArg some (by kernel_rfl))
  f260 := Tryz.func157.trans (congrArg some (by kernel_rfl))
  f266 := Tryz.func161.trans (congrArg some (by kernel_rfl))
  f267 := Tryz.func160.trans (congrArg some (by kernel_rfl))
  f268 := Tryz.func118.trans (congrArg some (by kernel_rfl))
  f314 := Tryz.func174.trans (congrArg some (by kernel_rfl))
  t0 := Tryz.underlying0
  a0 := Tryz.isAgg0
  z0 := Tryz.sizeOf0
  v0 := Tryz.zeroValue0
  t3 := Tryz.underlying3
  a3 := Tryz.isAgg3
  z3 := Tryz.sizeOf3
  v3 := Tryz.zeroValue3
  t4 := Tryz.underlying4
  a4 := Tryz.isAgg4
  z4 := Tryz.sizeOf4
  v4 := Tryz.zeroValue4
  t5 := Tryz.underlying5
  a5 := Tryz.isAgg5
  z5 := Tryz.sizeOf5
  v5 := Tryz.zeroValue5
  t9 := Tryz.underlying9
  a9 := Tryz.isAgg9
  z9 := Tryz.sizeOf9
  v9 := Tryz.zeroValue9
  t21 := Tryz.underlying21
  a21 := Tryz.isAgg21
  z21 := Tryz.sizeOf21
  v21 := Tryz.zeroValue21
  t31 := Tryz.underlying86
  a31 := Tryz.isAgg86
  z31 := Tryz.sizeOf86
  v31 := Tryz.zeroValue86
  t46 := Tryz.underlying171
  a46 := Tryz.isAgg171
  z46 := Tryz.sizeOf171
  v46 := Tryz.zeroValue171
  t51 := Tryz.underlying169
  a51 := Tryz.isAgg169
  z51 := Tryz.sizeOf169
  v51 := Tryz.zeroValue169
  t105 := Tryz.underlying161
  a105 := Tryz.isAgg161
  z105 := Tryz.sizeOf161
  v105 := Tryz.zeroValue161
  t119 := Tryz.underlying181
  a119 := Tryz.isAgg181
  z119 := Tryz.sizeOf181
  t138 := Tryz.underlying183
  a138 := Tryz.isAgg183
  z138 := Tryz.sizeOf183
  v138 := Tryz.zeroValue183
  t139 := Tryz.underlying184
  a139 := Tryz.isAgg184
  z139 := Tryz.sizeOf184
  v139 := Tryz.zeroValue184
  t146 := Tryz.underlying185
  a146 := Tryz.isAgg185
  z146 := Tryz.sizeOf185
  v146 := Tryz.zeroValue185
  g1 := by kernel_rfl
  g3 := by kernel_rfl
  g4 := by kernel_rfl }
open Go.RowKit Go.Lib in
theorem Tryz.strings_Split (s sep : ByteArray) (m : Int) (w : World) (hs : s.size < 4294967281) (hm : w.cell? ⟨1, 0, none⟩ = some (.int .i64 m)) (h1 : 1 ≤ sep.size) :
    Calls Tryz.prog 56 #[.string s, .string sep] w fun e w' =>
      e = .returned (.slice (some ⟨w.heap.size, 0, none⟩) (Lib.countB s sep + 1) (Lib.countB s sep + 1)) ∧ w' = w.alloc (.cells ((Lib.splitB sep 0 (Lib.countB s sep) s).map Value.string).toArray 9) := Any.strings_Split Tryz.lays146 (by kernel_rfl) s sep m w hs hm h1
def Tryz.laysM146_ren : Go.Shelf.Ren := ⟨fun | 146 => 56 | 221 => 91 | 268 => 118 | 138 => 119 | 143 => 120 | 195 => 137 | 197 => 138 | 218 => 139 | 219 => 140 | 260 => 157 | 217 => 141 | 225 => 158 | 224 => 159 | 267 => 160 | 266 => 161 | 314 => 174 | n => n, fun | 9 => 9 | 31 => 86 | 3 => 3 | 4 => 4 | 0 => 0 | 105 => 161 | 21 => 21 | 5 => 5 | 46 => 171 | 119 => 181 | 139 => 184 | 138 => 183 | 146 => 185 | 51 => 169 | n => n, fun | 1 => 1 | 3 => 2 | 4 => 3 | n => n⟩
theorem Tryz.laysM146 : Go.Proofs.LaysM.n146 Tryz.prog Tryz.laysM146_ren := {
  mixed := by kernel_rfl
  f138 := Tryz.func119.trans (congrArg some (by kernel_rfl))
  f143 := Tryz.func120.trans (congrArg some (by kernel_rfl))
  f146 := Tryz.func56.trans (congrArg some (by kernel_rfl))
  f195 := Tryz.func137.trans (congrArg some (by kernel_rfl))
  f197 := Tryz.func138.trans (congrArg some (by kernel_rfl))
  f217 := Tryz.func141.trans (congrArg some (by kernel_rfl))
  f218 := Tryz.func139.trans (congrArg some (by kernel_rfl))
  f219 := Tryz.func140.trans (congrArg some (by kernel_rfl))
  f221 := Tryz.func91.trans (congrArg some (by kernel_rfl))
  f224 := Tryz.func159.trans (congrArg some (by kernel_rfl))
  f225 := Tryz.func158.trans (congrArg some (by kernel_rfl))
  f260 := Tryz.func157.trans (congrArg some (by kernel_rfl))
  f266 := Tryz.func161.trans (congrArg some (by kernel_rfl))
  f267 := Tryz.func160.trans (congrArg some (by kernel_rfl))
  f268 := Tryz.func118.trans (congrArg some (by kernel_rfl))
  f314 := Tryz.func174.trans (congrArg some (by kernel_rfl))
  t0 := Tryz.underlying0
  a0 := Tryz.isAgg0
  z0 := Tryz.sizeOf0
  v0 := Tryz.zeroValue0
  t3 := Tryz.underlying3
  a3 := Tryz.isAgg3
  z3 := Tryz.sizeOf3
  v3 := Tryz.zeroValue3
  t4 := Tryz.underlying4
  a4 := Tryz.isAgg4
  z4 := Tryz.sizeOf4
  v4 := Tryz.zeroValue4
  t5 := Tryz.underlying5
  a5 := Tryz.isAgg5
  z5 := Tryz.sizeOf5
  v5 := Tryz.zeroValue5
  t9 := Tryz.underlying9
  a9 := Tryz.isAgg9
  z9 := Tryz.sizeOf9
  v9 := Tryz.zeroValue9
  t21 := Tryz.underlying21
  a21 := Tryz.isAgg21
  z21 := Tryz.sizeOf21
  v21 := Tryz.zeroValue21
  t31 := Tryz.underlying86
  a31 := Tryz.isAgg86
  z31 := Tryz.sizeOf86
  v31 := Tryz.zeroValue86
  t46 := Tryz.underlying171
  a46 := Tryz.isAgg171
  z46 := Tryz.sizeOf171
  v46 := Tryz.zeroValue171
  t51 := Tryz.underlying169
  a51 := Tryz.isAgg169
  z51 := Tryz.sizeOf169
  v51 := Tryz.zeroValue169
  t105 := Tryz.underlying161
  a105 := Tryz.isAgg161
  z105 := Tryz.sizeOf161
  v105 := Tryz.zeroValue161
  t119 := Tryz.underlying181
  a119 := Tryz.isAgg181
  z119 := Tryz.sizeOf181
  t138 := Tryz.underlying183
  a138 := Tryz.isAgg183
  z138 := Tryz.sizeOf183
  v138 := Tryz.zeroValue183
  t139 := Tryz.underlying184
  a139 := Tryz.isAgg184
  z139 := Tryz.sizeOf184
  v139 := Tryz.zeroValue184
  t146 := Tryz.underlying185
  a146 := Tryz.isAgg185
  z146 := Tryz.sizeOf185
  v146 := Tryz.zeroValue185
  g1 := by kernel_rfl
  g3 := by kernel_rfl
  g4 := by kernel_rfl
  i0 := by kernel_rfl
  i3 := by kernel_rfl
  i4 := by kernel_rfl
  i5 := by kernel_rfl
  i9 := by kernel_rfl
  i21 := by kernel_rfl
  i31 := by kernel_rfl
  i46 := by kernel_rfl
  i51 := by kernel_rfl
  i105 := by kernel_rfl
  i138 := by kernel_rfl
  i139 := by kernel_rfl
  i146 := by kernel_rfl
  m1 := by kernel_rfl
  s1_3 := fun w h => Go.Proofs.cell_of_shapedOpen_int (zero := #[.int .i64 0]) (t := 3) h (of_decide_eq_true (by kernel_rfl)) (by kernel_rfl) rfl (by kernel_rfl) (by kernel_rfl) Tryz.underlying3
  m3 := by kernel_rfl
  m4 := by kernel_rfl }
end Go.Proofs.YtkljakeccfnakaaGreatDoor

namespace Go.Proofs.YtkljakeccfnakaaGreatDoor
open Go.Shelf Go.RowKit

theorem X50 : Builder.Extra Tryz.prog Tryz.lays169_ren := Tryz.Builder_Extra_169
set_option maxHeartbeats 1000000 in
set_option maxRecDepth 100000 in
theorem check_used (b : Nat) (w : World) (h0 : w.cell? ⟨b, 0, none⟩ = some (.pointer (some ⟨b, 0, none⟩))) :
    Calls Tryz.prog 52 #[.pointer (some ⟨b, 0, none⟩)] w fun e w' => e = .returned (.tuple #[]) ∧ w' = w := by
  obtain ⟨j, hj, _⟩ := Option.map_eq_some_iff.1 (X50.toX72.sizeBuilder)
  go_enter Tryz.func52, Tryz.ntmps52
  go_wp2
  rw [Lib.run_neq_ptr_same w _ Tryz.underlying51 hj]
  go_wp2
  go_end0
  exact ⟨rfl, rfl⟩
set_option maxHeartbeats 1000000 in
set_option maxRecDepth 100000 in
theorem check_fresh (b : Nat) (w : World) (h0 : w.cell? ⟨b, 0, none⟩ = some (.pointer none)) (hsh : w.shape? b = some (54, 2)) (hfz : w.frozen? ⟨b, 0, none⟩ = false) :
    Calls Tryz.prog 52 #[.pointer (some ⟨b, 0, none⟩)] w fun e w' => e = .returned (.tuple #[]) ∧ w' = w.setCell ⟨b, 0, none⟩ (.pointer (some ⟨b, 0, none⟩)) := by
  obtain ⟨j, hj, hjs⟩ := Option.map_eq_some_iff.1 (X50.toX72.sizeBuilder)
  go_enter Tryz.func52, Tryz.ntmps52
  go_wp2
  rw [Lib.run_to_unsafe w ⟨b, 0, none⟩ Tryz.underlying51 Tryz.underlying128 hj (by rw [hjs]; decide) hsh (Nat.zero_lt_succ 1)]
  simp only [Result.andThen]
  rw [Oper.upon_value]
  go_wp2
  rw [run_callFunc_extern Tryz.func89 (by kernel_rfl) (by kernel_rfl) (by kernel_rfl) (e := Extern.AbiNoEscape.same) (by kernel_rfl)]
  rw [Lib.run_noEscape]
  simp only [Result.andThen]
  rw [Oper.upon_value]
  go_wp2
  rw [Lib.run_from_unsafe w ⟨b, 0, none⟩ Tryz.underlying128 Tryz.underlying51 hj hsh X50.toX72.liesBuilder]
  simp only [Result.andThen]
  rw [Oper.upon_value]
  go_wp2
  go_end0
  exact ⟨rfl, rfl⟩
theorem check_k (B b : Nat) (bs : List Value) (w : World) (h : Lib.IsBuilderF 54 5 B b bs w) :
    Calls Tryz.prog 52 #[.pointer (some ⟨b, 0, none⟩)] w fun e w' => e = .returned (.tuple #[]) ∧ (Lib.BuilderAtF 54 5 B b (.pointer (some ⟨b, 0, none⟩)) bs w' ∧ Below B w w' ∧ Lib.OthersKept 5 (some b) w w') := by
  rcases h with h | h
  · refine (check_fresh b w h.cell0 h.shape h.frozen0).mono ?_
    rintro e w' ⟨rfl, rfl⟩
    exact ⟨rfl, h.used _, (Below.refl B w).setCell (p := ⟨b, 0, none⟩) h.1 _, (Lib.OthersKept.refl _ _ w).setCell ⟨b, 0, none⟩ rfl _⟩
  · refine (check_used b w h.cell0).mono ?_
    rintro e w' ⟨rfl, rfl⟩
    exact ⟨rfl, h, Below.refl B _, Lib.OthersKept.refl _ _ _⟩
set_option maxHeartbeats 2000000 in
set_option maxRecDepth 100000 in
theorem writeString_k (B b : Nat) (bs : List Value) (s : ByteArray) (w : World) (h : Lib.IsBuilderF 54 5 B b bs w) (hlen : bs.length + s.size ≤ 140737488355328) (hBw : B ≤ w.heap.size) :
    Calls Tryz.prog 23 #[.pointer (some ⟨b, 0, none⟩), .string s] w fun e w' => e = .returned (.tuple #[.int .i64 s.size, .nilIface]) ∧ (Lib.BuilderAtF 54 5 B b (.pointer (some ⟨b, 0, none⟩)) (bs ++ Lib.strCells s) w' ∧ Below B w w' ∧ Lib.OthersKept 5 (some b) w w') := by
  obtain ⟨i0, hi, hz0, hz1, hz2⟩ := info_parts X50.infoByte
  go_enter Tryz.func23, Tryz.ntmps23
  go_wp2_with (go_at_call 52; refine (check_k B b bs _ h).mono ?_)
  rintro e w1 ⟨rfl, h1, hb1, hk1⟩
  obtain ⟨hB, v, hbk, hown, hne⟩ := h1
  have c0 : w1.cell? ⟨b, 0, none⟩ = some (.pointer (some ⟨b, 0, none⟩)) := by rw [Lib.cell_of_heap hbk]; rfl
  have c1 : w1.cell? ⟨b, 1, none⟩ = some v := by rw [Lib.cell_of_heap hbk]; rfl
  go_wp2_with (at_builtin; refine Lib.wpList_append_own_stringF _ rfl _ _ 52 9 rfl B 5 i0 Tryz.underlying52 Tryz.underlying9 hi hz0 hz1 hz2 _ _ _ rfl hown s rfl ?c3 ?c4 ?c5 ?_)
  case c3 => unfold maxLen; omega
  case c4 => omega
  case c5 => have := hb1.size; omega
  intro v' w2 hown' hgrow _
  have hlt : b < w1.heap.size := by
    rcases Nat.lt_or_ge b w1.heap.size with h' | h'
    · exact h'
    · simp [Array.getElem?_eq_none h'] at hbk
  have hb2 : w2.heap[b]? = some (.cells #[.pointer (some ⟨b, 0, none⟩), v] 54 (0, 0)) := by
    rw [hgrow.block b hlt (fun e => hne e.symm)]
    exact hbk
  have d0 : w2.cell? ⟨b, 0, none⟩ = some (.pointer (some ⟨b, 0, none⟩)) := by rw [Lib.cell_of_heap hb2]; rfl
  have d1 : w2.cell? ⟨b, 1, none⟩ = some v := by rw [Lib.cell_of_heap hb2]; rfl
  have f1 : w2.frozen? ⟨b, 1, none⟩ = false := Lib.frozen_of_heap hb2 1
  obtain ⟨ao, n', cap, rfl⟩ : ∃ ao n' cap, v' = .slice ao n' cap := by
    rcases hown'.2 with ⟨hv, _⟩ | ⟨g, cap, cur, fz, hv, _⟩
    · exact ⟨_, _, _, hv⟩
    · exact ⟨_, _, _, hv⟩
  go_wp2
  go_ret2
  refine ⟨rfl, ?_, ?_, (hk1.grown hgrow (Lib.ownsRowF_kind hown)).setCell ⟨b, 1, none⟩ rfl _⟩
  · exact Lib.BuilderAtF.put (T := 54) (e := 5) hB hb2 (bs' := bs ++ Lib.strCells s) (by simpa [Lib.strCells_length] using hown') X50.neB5
  · exact (hb1.grown hgrow (by have := hb1.size; omega) (fun k hk => (hown.lt k hk).1)).setCell (p := ⟨b, 1, none⟩) hB _
end Go.Proofs.YtkljakeccfnakaaGreatDoor

namespace Go.Proofs.YtkljakeccfnakaaGreatDoor
open Go.RowKit

def pxV (k : Int) (t o : List UInt8) (n p : Int) (s : Value) : Value := .agg #[.int .i64 k, .string ⟨t.toArray⟩, .string ⟨o.toArray⟩, .int .i64 n, .int .i64 p, s]
/-- The value v is the expression x in the world w; its memory lies below hi. -/
inductive PxV (hi : Nat) (w : World) : Value → Px → Prop
  | mk (k : Int) (t o : List UInt8) (n p : Int) (a : Option Addr) (cap : Nat) (kids : List Px) (vs : Nat → Value) (hs : t.length ≤ 140737488351232 ∧ o.length ≤ 140737488351232) (hcap : kids.length ≤ cap ∧ kids.length ≤ 140737488351232)
      (ha : kids = [] ∨ ∃ b off, a = some ⟨b, off, none⟩ ∧ b < hi ∧ ∀ j, j < kids.length → ∀ c, c < 6 → w.cell? ⟨b, off + j * 6 + c, none⟩ = some (comp (vs j) c)) (hk : ∀ j x, kids[j]? = some x → PxV hi w (vs j) x) :
      PxV hi w (pxV k t o n p (.slice a kids.length cap)) (.mk k t o n p kids)
theorem PxV.keep {hi : Nat} {w w' : World} {v : Value} {x : Px} (h : PxV hi w v x) (hk : Below hi w w') : PxV hi w' v x := by
  induction h with
  | mk k t o n p a cap kids vs hs hcap ha _ ih =>
    refine .mk k t o n p a cap kids vs hs hcap ?_ ih
    rcases ha with h | ⟨b, off, e, hb, hc⟩
    · exact Or.inl h
    · exact Or.inr ⟨b, off, e, hb, fun j hj c h6 => (hk.cell (p := ⟨b, off + j * 6 + c, none⟩) hb).trans (hc j hj c h6)⟩
/-- The value of an expression whose kids lie at a. -/
def pv (x : Px) (a : Option Addr) (cap : Nat) : Value := .agg #[.int .i64 x.kind, .string ⟨x.text.toArray⟩, .string ⟨x.other.toArray⟩, .int .i64 x.n, .int .i64 x.pl, .slice a x.kids.length cap]
/-- The cells of the kid number j. -/
def KidC (w : World) (b off j : Nat) (y : Px) (a : Option Addr) (cp : Nat) : Prop :=
  w.cell? ⟨b, off + j * 6, none⟩ = some (.int .i64 y.kind) ∧ w.cell? ⟨b, off + j * 6 + 1, none⟩ = some (.string ⟨y.text.toArray⟩) ∧ w.cell? ⟨b, off + j * 6 + 2, none⟩ = some (.string ⟨y.other.toArray⟩) ∧
  w.cell? ⟨b, off + j * 6 + 3, none⟩ = some (.int .i64 y.n) ∧ w.cell? ⟨b, off + j * 6 + 4, none⟩ = some (.int .i64 y.pl) ∧ w.cell? ⟨b, off + j * 6 + 5, none⟩ = some (.slice a y.kids.length cp)
theorem KidC.keep {w w' : World} {B b off j : Nat} {y : Px} {a : Option Addr} {cp : Nat} (h : KidC w b off j y a cp) (hb : Below B w w') (hl : b < B) : KidC w' b off j y a cp := by
  obtain ⟨h0, h1, h2, h3, h4, h5⟩ := h
  exact ⟨(hb.cell (p := ⟨b, _, none⟩) hl).trans h0, (hb.cell (p := ⟨b, _, none⟩) hl).trans h1, (hb.cell (p := ⟨b, _, none⟩) hl).trans h2, (hb.cell (p := ⟨b, _, none⟩) hl).trans h3, (hb.cell (p := ⟨b, _, none⟩) hl).trans h4, (hb.cell (p := ⟨b, _, none⟩) hl).trans h5⟩
theorem PxV.form {hi : Nat} {w : World} {v : Value} {x : Px} (h : PxV hi w v x) : ∃ a cap, v = pv x a cap ∧ x.kids.length ≤ cap ∧ x.kids.length ≤ 140737488351232 ∧ x.text.length ≤ 140737488351232 ∧ x.other.length ≤ 140737488351232 := by
  cases h with
  | mk k t o n p a cap kids vs hs hcap ha hk => exact ⟨a, cap, rfl, hcap.1, hcap.2, hs.1, hs.2⟩
/-- The kids lie in a row. -/
def Row (hi : Nat) (w : World) (b off : Nat) (l : List Px) : Prop :=
  b < hi ∧ ∀ j y, l[j]? = some y → ∃ a cp, KidC w b off j y a cp ∧ PxV hi w (pv y a cp) y
theorem Row.keep {hi : Nat} {w w' : World} {b off : Nat} {l : List Px} (h : Row hi w b off l) (hk : Below hi w w') : Row hi w' b off l :=
  ⟨h.1, fun j y hy => (h.2 j y hy).elim fun a ⟨cp, hc, hv⟩ => ⟨a, cp, hc.keep hk h.1, hv.keep hk⟩⟩
theorem PxV.row {hi : Nat} {w : World} {v : Value} {x : Px} (h : PxV hi w v x) : ∃ a cap, v = pv x a cap ∧ x.kids.length ≤ cap ∧ x.kids.length ≤ 140737488351232 ∧ (x.kids = [] ∨ ∃ b off, a = some ⟨b, off, none⟩ ∧ Row hi w b off x.kids) := by
  cases h with
  | mk k t o n p a cap kids vs hs hcap ha hk =>
    refine ⟨a, cap, rfl, hcap.1, hcap.2, ha.imp id ?_⟩
    rintro ⟨b, off, e, hb, hc⟩
    refine ⟨b, off, e, hb, fun j y hy => ?_⟩
    have hj : j < kids.length := (List.getElem?_eq_some_iff.1 hy).1
    obtain ⟨a2, cp2, e2, -⟩ := (hk j y hy).form
    have hx := hk j y hy
    have c := hc j hj
    rw [e2] at hx c
    exact ⟨a2, cp2, ⟨c 0 (by omega), c 1 (by omega), c 2 (by omega), c 3 (by omega), c 4 (by omega), c 5 (by omega)⟩, hx⟩
theorem PxV.of_row {hi : Nat} {w : World} {x : Px} {b off cap : Nat} (hs : x.text.length ≤ 140737488351232 ∧ x.other.length ≤ 140737488351232) (hcap : x.kids.length ≤ cap ∧ x.kids.length ≤ 140737488351232) (h : Row hi w b off x.kids) : PxV hi w (pv x (some ⟨b, off, none⟩) cap) x := by
  obtain ⟨k, t, o, n, p, l⟩ := x
  have hx : ∀ j, ∃ u, ∀ y, l[j]? = some y → PxV hi w u y ∧ ∀ c, c < 6 → w.cell? ⟨b, off + j * 6 + c, none⟩ = some (comp u c) := fun j => by
    cases e : l[j]? with
    | none => exact ⟨undef, fun y h => by cases h⟩
    | some y =>
      obtain ⟨a, cp, ⟨h0, h1, h2, h3, h4, h5⟩, hv⟩ := h.2 j y e
      exact ⟨_, fun y' h' => by obtain rfl := Option.some.inj h'; exact ⟨hv, six h0 h1 h2 h3 h4 h5⟩⟩
  refine .mk k t o n p _ cap l (fun j => Classical.choose (hx j)) hs hcap (Or.inr ⟨b, off, rfl, h.1, fun j hj c hc => ?_⟩) (fun j y hy => (Classical.choose_spec (hx j) y hy).1)
  exact (Classical.choose_spec (hx j) _ (List.getElem?_eq_getElem hj)).2 c hc

set_option maxHeartbeats 4000000 in
theorem xdeep_any (N : Nat) : ∀ (x : Px) (v : Value) (hi : Nat) (w : World), szX x ≤ N → hi ≤ w.heap.size → PxV hi w v x → deepX x ≤ 1000000000000000 →
    Calls Tryz.prog 20 #[v] w fun e w' => e = .returned (.int .i64 (deepX x : Nat)) ∧ Below w.heap.size w w' := by
  induction N with
  | zero => intro x v lo w h; have := szX_pos x; omega
  | succ N ih =>
    intro x v hi w hN hhi hx hd
    have hd2 : deepXL x.kids + 1 ≤ 1000000000000000 := by cases x; simp only [deepX] at hd; exact hd
    have IH : Hid (∀ (j : Nat) (y : Px) (u : Value) (W : World), x.kids[j]? = some y → Below w.heap.size w W → PxV hi w u y → Calls Tryz.prog 20 #[u] W fun e w' => e = .returned (.int .i64 (deepX y : Nat)) ∧ Below W.heap.size W w') := fun j y u W hj hK hu =>
      ih y u hi W (by have := szXL_mem _ j y hj; cases x; simp only [szX, Px.kids] at *; omega) (Nat.le_trans hhi hK.size) (hu.keep (hK.mono hhi)) (by have := deepXL_mem _ j y hj; omega)
    have E : Hid (deepX x = deepXL x.kids + 1) := by cases x; rfl
    obtain ⟨a, cap, rfl, hcap, hlen, hab⟩ := hx.row
    unfold pv
    clear hx hN hd
    generalize hn : x.kids.length = n at *
    have HN : Hid (x.kids.length = n) := hn
    clear hn
    rcases hab with h0 | ⟨b, off, rfl, hR⟩
    · have F : Hid (deepXL x.kids = 0) := by show _ = _; rw [h0]; rfl
      obtain rfl : n = 0 := by rw [← HN.out, h0]; rfl
      clear h0
      go_enter Tryz.func20, Tryz.ntmps20
      go_wp2
      go_loopw [3, 4] (fun t u wr => u = .int .i64 0 ∧ t = .int .i64 0 ∧ wr.cell? ⟨w.heap.size, 5, none⟩ = some (.slice a 0 cap) ∧ Below w.heap.size w wr) (fun _ _ _ => 0)
      case atStart => exact ⟨rfl, rfl, by go_simp, (Below.refl _ _).alloc (Nat.le_refl _) _⟩
      case round =>
        obtain ⟨rfl, rfl, c5, hb⟩ := hrel
        have lt5 := lt_cell c5
        go_wp2_with fail
        go_ret
        exact ⟨ret_int (by rw [E.out, F.out]; rfl), hb⟩
    have HR : Hid (Row hi w b off x.kids) := hR
    have hbl : b < w.heap.size := Nat.lt_of_lt_of_le hR.1 hhi
    clear hR
    go_enter Tryz.func20, Tryz.ntmps20
    go_wp2
    go_loopw [3, 4] (fun t u wr => ∃ (i q : Nat), i ≤ n ∧ q ≤ 1000000000000000 ∧ u = .int .i64 i ∧ t = .int .i64 q ∧ Hid (q = deepXL (x.kids.take i)) ∧ wr.cell? ⟨w.heap.size, 5, none⟩ = some (.slice (some ⟨b, off, none⟩) n cap) ∧ Below w.heap.size w wr) (fun _ u _ => n - (intOf u).toNat)
    case atStart => exact ⟨0, 0, Nat.zero_le _, Nat.zero_le _, rfl, rfl, by simp [deepXL, Hid], by go_simp, (Below.refl _ _).alloc (Nat.le_refl _) _⟩
    case round =>
      obtain ⟨i, q, hi', hq, rfl, rfl, hs, c5, hb⟩ := hrel
      have lt5 := lt_cell c5
      by_cases c : i < n
      · have c' : (i : Int) < (n : Int) := by omega
        obtain ⟨y, hy⟩ : ∃ y, x.kids[i]? = some y := ⟨_, List.getElem?_eq_getElem (by have := HN.out; omega)⟩
        obtain ⟨ka, cp, hkc, hky⟩ := HR.out.2 i y hy
        obtain ⟨HK0, HK1, HK2, HK3, HK4, HK5⟩ := hkc.keep hb hbl
        have HC : Hid (∀ W : World, Below w.heap.size w W → Calls Tryz.prog 20 #[.agg #[.int .i64 y.kind, .string ⟨y.text.toArray⟩, .string ⟨y.other.toArray⟩, .int .i64 y.n, .int .i64 y.pl, .slice ka y.kids.length cp]] W fun e w' => e = .returned (.int .i64 (deepX y : Nat)) ∧ Below W.heap.size W w') := fun W hK => IH.out i y _ W hy hK hky
        have HS : Hid (deepXL (x.kids.take (i + 1)) = max q (deepX y)) := by show _ = _; rw [takeX_add hy, deepXL_add, ← hs.out]
        have hyd : deepX y ≤ 1000000000000000 := by have := deepXL_mem _ i y hy; omega
        have KW : Hid (Below w.heap.size w wr) := hb
        have hbr : b < wr.heap.size := Nat.lt_of_lt_of_le hbl hb.size
        clear hkc hky hy
        generalize y.kids.length = yl at *
        obtain ⟨z, hz⟩ : ∃ z, deepX y = z := ⟨_, rfl⟩
        rw [hz] at HC HS hyd
        clear hz
        by_cases g : q < z
        · have g' : (q : Int) < (z : Int) := by omega
          go_wp2_with (go_at_call 20; refine (HC.out _ KW.out).mono ?_; rintro e w1 ⟨rfl, hb1⟩)
          exact ⟨⟨i + 1, z, by omega, hyd, by go_num, rfl, by show z = _; rw [HS.out]; omega, (hb1.cell (p := ⟨w.heap.size, 5, none⟩) lt5).trans c5, bl2 hb hb1⟩, by simp [intOf]; omega⟩
        · have g' : ¬ (q : Int) < (z : Int) := by omega
          go_wp2_with (go_at_call 20; refine (HC.out _ KW.out).mono ?_; rintro e w1 ⟨rfl, hb1⟩)
          exact ⟨⟨i + 1, q, by omega, hq, by go_num, rfl, by show q = _; rw [HS.out]; omega, (hb1.cell (p := ⟨w.heap.size, 5, none⟩) lt5).trans c5, bl2 hb hb1⟩, by simp [intOf]; omega⟩
      · have c' : ¬ (i : Int) < (n : Int) := by omega
        have F : Hid (q = deepXL x.kids) := by
          show _ = _
          rw [hs.out, List.take_of_length_le (by have := HN.out; omega)]
        go_wp2_with fail
        go_ret
        exact ⟨ret_int (by rw [E.out, ← F.out]; first | rfl | omega | (simp; done)), hb⟩

set_option maxHeartbeats 4000000 in
theorem xsize_any (N : Nat) : ∀ (x : Px) (v : Value) (hi : Nat) (w : World), szX x ≤ N → hi ≤ w.heap.size → PxV hi w v x → szX x ≤ 1000000000000000 →
    Calls Tryz.prog 21 #[v] w fun e w' => e = .returned (.int .i64 (szX x : Nat)) ∧ Below w.heap.size w w' := by
  induction N with
  | zero => intro x v lo w h; have := szX_pos x; omega
  | succ N ih =>
    intro x v hi w hN hhi hx hd
    have hd2 : szXL x.kids + 1 ≤ 1000000000000000 := by cases x; simp only [szX] at hd; exact hd
    have IH : Hid (∀ (j : Nat) (y : Px) (u : Value) (W : World), x.kids[j]? = some y → Below w.heap.size w W → PxV hi w u y → Calls Tryz.prog 21 #[u] W fun e w' => e = .returned (.int .i64 (szX y : Nat)) ∧ Below W.heap.size W w') := fun j y u W hj hK hu =>
      ih y u hi W (by have := szXL_mem _ j y hj; cases x; simp only [szX, Px.kids] at *; omega) (Nat.le_trans hhi hK.size) (hu.keep (hK.mono hhi)) (by have := szXL_mem _ j y hj; omega)
    have E : Hid (szX x = szXL x.kids + 1) := by cases x; rfl
    obtain ⟨a, cap, rfl, hcap, hlen, hab⟩ := hx.row
    unfold pv
    clear hx hN hd
    generalize hn : x.kids.length = n at *
    have HN : Hid (x.kids.length = n) := hn
    clear hn
    rcases hab with h0 | ⟨b, off, rfl, hR⟩
    · have F : Hid (szXL x.kids = 0) := by show _ = _; rw [h0]; rfl
      obtain rfl : n = 0 := by rw [← HN.out, h0]; rfl
      clear h0
      go_enter Tryz.func21, Tryz.ntmps21
      go_wp2
      go_loopw [3, 4] (fun t u wr => u = .int .i64 0 ∧ t = .int .i64 1 ∧ wr.cell? ⟨w.heap.size, 5, none⟩ = some (.slice a 0 cap) ∧ Below w.heap.size w wr) (fun _ _ _ => 0)
      case atStart => exact ⟨rfl, rfl, by go_simp, (Below.refl _ _).alloc (Nat.le_refl _) _⟩
      case round =>
        obtain ⟨rfl, rfl, c5, hb⟩ := hrel
        have lt5 := lt_cell c5
        go_wp2_with fail
        go_ret
        exact ⟨ret_int (by rw [E.out, F.out]; rfl), hb⟩
    have HR : Hid (Row hi w b off x.kids) := hR
    have hbl : b < w.heap.size := Nat.lt_of_lt_of_le hR.1 hhi
    clear hR
    go_enter Tryz.func21, Tryz.ntmps21
    go_wp2
    go_loopw [3, 4] (fun t u wr => ∃ (i q : Nat), i ≤ n ∧ q ≤ 1000000000000000 ∧ u = .int .i64 i ∧ t = .int .i64 q ∧ Hid (q = szXL (x.kids.take i) + 1) ∧ wr.cell? ⟨w.heap.size, 5, none⟩ = some (.slice (some ⟨b, off, none⟩) n cap) ∧ Below w.heap.size w wr) (fun _ u _ => n - (intOf u).toNat)
    case atStart => exact ⟨0, 1, Nat.zero_le _, by omega, rfl, rfl, by simp [szXL, Hid], by go_simp, (Below.refl _ _).alloc (Nat.le_refl _) _⟩
    case round =>
      obtain ⟨i, q, hi', hq, rfl, rfl, hs, c5, hb⟩ := hrel
      have lt5 := lt_cell c5
      by_cases c : i < n
      · have c' : (i : Int) < (n : Int) := by omega
        obtain ⟨y, hy⟩ : ∃ y, x.kids[i]? = some y := ⟨_, List.getElem?_eq_getElem (by have := HN.out; omega)⟩
        obtain ⟨ka, cp, hkc, hky⟩ := HR.out.2 i y hy
        obtain ⟨HK0, HK1, HK2, HK3, HK4, HK5⟩ := hkc.keep hb hbl
        have HC : Hid (∀ W : World, Below w.heap.size w W → Calls Tryz.prog 21 #[.agg #[.int .i64 y.kind, .string ⟨y.text.toArray⟩, .string ⟨y.other.toArray⟩, .int .i64 y.n, .int .i64 y.pl, .slice ka y.kids.length cp]] W fun e w' => e = .returned (.int .i64 (szX y : Nat)) ∧ Below W.heap.size W w') := fun W hK => IH.out i y _ W hy hK hky
        have HS : Hid (szXL (x.kids.take (i + 1)) + 1 = q + szX y) := by show _ = _; have := hs.out; rw [takeX_add hy, szXL_add]; omega
        have hq2 : q + szX y ≤ 1000000000000000 := by
          have h1 := HS.out
          have h2 := szXL_take x.kids (i + 1)
          omega
        have KW : Hid (Below w.heap.size w wr) := hb
        have hbr : b < wr.heap.size := Nat.lt_of_lt_of_le hbl hb.size
        clear hkc hky hy
        generalize y.kids.length = yl at *
        obtain ⟨z, hz⟩ : ∃ z, szX y = z := ⟨_, rfl⟩
        rw [hz] at HC HS hq2
        clear hz
        go_wp2_with (go_at_call 21; refine (HC.out _ KW.out).mono ?_; rintro e w1 ⟨rfl, hb1⟩)
        exact ⟨⟨i + 1, q + z, by omega, hq2, by go_num, by go_num, by show q + z = _; rw [HS.out], (hb1.cell (p := ⟨w.heap.size, 5, none⟩) lt5).trans c5, bl2 hb hb1⟩, by simp [intOf]; omega⟩
      · have c' : ¬ (i : Int) < (n : Int) := by omega
        have F : Hid (q = szXL x.kids + 1) := by
          show _ = _
          rw [hs.out, List.take_of_length_le (by have := HN.out; omega)]
        go_wp2_with fail
        go_ret
        exact ⟨ret_int (by rw [E.out, ← F.out]), hb⟩
end Go.Proofs.YtkljakeccfnakaaGreatDoor

namespace Go.Proofs.YtkljakeccfnakaaGreatDoor
open Go.RowKit

/-- The builder in block B holds the bytes l. -/
def Bld (B : Nat) (l : List UInt8) (w : World) : Prop := Lib.IsBuilderF 54 5 B B (Lib.byteCells l) w
/-- What a writer leaves: below B, and all blocks but the builder's and its bytes'. -/
def Wr (B : Nat) (w w' : World) : Prop := Below B w w' ∧ Lib.OthersKept 5 (some B) w w'
theorem Wr.refl (B : Nat) (w : World) : Wr B w w := ⟨Below.refl _ _, Lib.OthersKept.refl _ _ _⟩
theorem Wr.trans {B : Nat} {a b c : World} (h : Wr B a b) (k : Wr B b c) : Wr B a c := ⟨h.1.trans k.1, h.2.trans k.2⟩
theorem lt_heap {w : World} {k : Nat} {o : Obj} (h : w.heap[k]? = some o) : k < w.heap.size := (Array.getElem?_eq_some_iff.1 h).1
theorem Wr.of {B : Nat} {w w' : World} (h : Below w.heap.size w w') (hB : B ≤ w.heap.size) : Wr B w w' :=
  ⟨h.mono hB, fun k _ hk _ _ => (h.block k (lt_heap hk)).trans hk⟩
theorem Wr.alloc {B : Nat} {a w : World} (h : Wr B a w) (hB : B ≤ w.heap.size) (o : Obj) : Wr B a (w.alloc o) := ⟨h.1.alloc hB o, h.2.alloc o⟩
/-- A block that is no row of bytes, behind a writer. -/
theorem Wr.heap {B : Nat} {w w' : World} (h : Wr B w w') {k : Nat} {c : Array Value} {T : TypeId} {fz : Nat × Nat} (hk : w.heap[k]? = some (.cells c T fz)) (hT : T ≠ 5) (hB : k ≠ B) : w'.heap[k]? = some (.cells c T fz) :=
  h.2 k _ hk (fun e => hB (Option.some.inj e)) fun c' fz' e => by cases e; exact hT rfl
theorem Bld.lt {B : Nat} {l : List UInt8} {w : World} (h : Bld B l w) : B < w.heap.size := by rcases h with h | h <;> exact h.lt
theorem atF_below {p : Value} {B : Nat} {bs : List Value} {w w' : World} (h : Lib.BuilderAtF 54 5 B B p bs w) (hb : Below w.heap.size w w') : Lib.BuilderAtF 54 5 B B p bs w' := by
  obtain ⟨h1, v, h2, h3, h4⟩ := h
  refine ⟨h1, v, (hb.block B (lt_heap h2)).trans h2, ?_, h4⟩
  exact h3.kept (row := none) ⟨hb.os, hb.tape, hb.output, hb.size, fun k hk _ => hb.block k hk⟩ (by
    cases e : v.ownBlock with
    | none => exact Or.inl rfl
    | some g => exact Or.inr (by simp))
theorem Bld.below {B : Nat} {l : List UInt8} {w w' : World} (h : Bld B l w) (hb : Below w.heap.size w w') : Bld B l w' := h.imp (fun h => atF_below h hb) (fun h => atF_below h hb)
theorem Bld.alloc {B : Nat} {l : List UInt8} {w : World} (h : Bld B l w) (o : Obj) : Bld B l (w.alloc o) := h.below ((Below.refl _ _).alloc (Nat.le_refl _) o)
theorem wr_any (B : Nat) (l : List UInt8) (s : ByteArray) (w : World) (h : Bld B l w) (hl : l.length + s.size ≤ 140737488355328) :
    Calls Tryz.prog 23 #[.pointer (some ⟨B, 0, none⟩), .string s] w fun e w' => e = .returned (.tuple #[.int .i64 s.size, .nilIface]) ∧ Bld B (l ++ s.data.toList) w' ∧ Wr B w w' := by
  refine (writeString_k B B (Lib.byteCells l) s w h (by rw [Lib.byteCells_length]; exact hl) (Nat.le_of_lt h.lt)).mono ?_
  rintro e w' ⟨rfl, h1, h2, h3⟩
  refine ⟨rfl, ?_, h2, h3⟩
  rw [Lib.strCells_eq, ← Lib.byteCells_append] at h1
  exact Or.inr h1
theorem str_any (B : Nat) (l : List UInt8) (w : World) (h : Bld B l w) :
    Calls Tryz.prog 26 #[.pointer (some ⟨B, 0, none⟩)] w fun e w' => e = .returned (.string ⟨l.toArray⟩) ∧ Below B w w' := by
  refine (Tryz.Builder_String_any_k B B l w h (Nat.le_of_lt h.lt)).mono ?_
  rintro e w' ⟨rfl, _, h2, _⟩
  exact ⟨rfl, h2⟩

/-- What the library reads of its own variables lies below B. -/
structure Ok (B : Nat) (w : World) : Prop where
  tab : Lib.TabIs Tryz.prog w "internal/strconv.uint64pow10" .u64 Lib.pow10Tab
  ml : ∃ m, w.cell? ⟨1, 0, none⟩ = some (.int .i64 m)
  lt : 2 ≤ B
theorem pow_named : ∃ g, Tryz.prog.globalNamed "internal/strconv.uint64pow10" = some g ∧ g < 2 := by
  exact ⟨0, by kernel_rfl, by omega⟩
theorem Ok.keep {B : Nat} {w w' : World} (h : Ok B w) (hb : Below B w w') : Ok B w' := by
  refine ⟨?_, h.ml.imp fun m hm => (hb.cell (p := ⟨1, 0, none⟩) (by have := h.lt; dsimp only; omega)).trans hm, h.lt⟩
  have ht := h.tab
  obtain ⟨g, hg, h8⟩ := pow_named
  have e := hb.block g (by have := h.lt; omega)
  unfold Lib.TabIs World.var? at ht ⊢
  rw [hg] at ht ⊢
  simp only [Option.bind_some] at ht ⊢
  rw [e]
  exact ht
theorem Ok.up {B B' : Nat} {w : World} (h : Ok B w) (hB : B ≤ B') : Ok B' w := ⟨h.tab, h.ml, Nat.le_trans h.lt hB⟩
theorem itoa_any (n : Int) (h0 : -9223372036854775808 ≤ n) (h1 : n ≤ 9223372036854775807) (B : Nat) (w : World) (h : Ok B w) :
    Calls Tryz.prog 54 #[.int .i64 n] w fun e w' => e = .returned (.string ⟨(Lib.itoa n).toArray⟩) ∧ Below w.heap.size w w' := by
  refine (Tryz.strconv_Itoa n h0 h1 w h.tab).mono ?_
  rintro e w' ⟨rfl, k, os, rfl⟩
  refine ⟨rfl, rfl, rfl, rfl, by rw [Go.Sort.size_grow]; exact Nat.le_add_right _ _, fun j hj => ?_⟩
  exact Go.Sort.heap_grow_old (w.drewN k) os hj
theorem fbool_any (b : Bool) (w : World) : Calls Tryz.prog 92 #[.bool b] w fun e w' => e = .returned (.string ⟨(if b then [116, 114, 117, 101] else [102, 97, 108, 115, 101] : List UInt8).toArray⟩) ∧ w' = w := by
  refine (Tryz.strconv_FormatBool b w).mono ?_
  rintro e w' ⟨rfl, rfl⟩
  exact ⟨by cases b <;> rfl, rfl⟩
/-- Pieces with a sign between them. -/
def joined (c : UInt8) : List (List UInt8) → List UInt8
  | [] => []
  | [p] => p
  | p :: q :: r => p ++ c :: joined c (q :: r)
theorem idx_cons (c : UInt8) : ∀ (p r : List UInt8), c ∉ p → Lib.index (p ++ c :: r) [c] = (p.length : Int) := by
  intro p
  induction p with
  | nil => intro r _; simp [Lib.index]
  | cons a p ih =>
    intro r h
    have ha : ¬ c = a := fun e => h (by rw [e]; exact List.mem_cons_self)
    have h2 := ih r fun e => h (List.mem_cons_of_mem _ e)
    rw [List.cons_append, Lib.index, if_neg (by simp [ha]), h2, if_neg (by rw [beq_iff_eq]; omega), List.length_cons]
    omega
theorem split_joined (c : UInt8) : ∀ (p : List UInt8) (ps : List (List UInt8)), (∀ q ∈ p :: ps, c ∉ q) → Lib.splitK [c] 0 ps.length (joined c (p :: ps)) = p :: ps := by
  intro p ps
  induction ps generalizing p with
  | nil => intro _; rfl
  | cons q r ih =>
    intro h
    have hp := h p List.mem_cons_self
    rw [joined, List.length_cons, Lib.splitK, idx_cons c _ _ hp, if_neg (by rw [beq_iff_eq]; omega)]
    have e1 : ((p.length : Int).toNat + 0) = p.length := by omega
    have e2 : ((p.length : Int).toNat + [c].length) = p.length + 1 := by simp
    rw [e1, e2, List.take_left, show p ++ c :: joined c (q :: r) = (p ++ [c]) ++ joined c (q :: r) by simp, List.drop_left' (by simp)]
    rw [ih q fun x hx => h x (List.mem_cons_of_mem _ hx)]
theorem count_joined (c : UInt8) : ∀ (p : List UInt8) (ps : List (List UInt8)), (∀ q ∈ p :: ps, c ∉ q) → Lib.count (joined c (p :: ps)) [c] = ps.length := by
  intro p ps h
  rw [Lib.count_one]
  induction ps generalizing p with
  | nil => exact List.count_eq_zero.2 (h p List.mem_cons_self)
  | cons q r ih =>
    rw [joined, List.count_append, List.count_eq_zero.2 (h p List.mem_cons_self), List.count_cons_self, ih q fun x hx => h x (List.mem_cons_of_mem _ hx)]
    simp
theorem split_any (c : UInt8) (p : List UInt8) (ps : List (List UInt8)) (h : ∀ q ∈ p :: ps, c ∉ q) (B : Nat) (w : World) (hw : Ok B w) (hs : (joined c (p :: ps)).length < 4294967281) :
    Calls Tryz.prog 56 #[.string ⟨(joined c (p :: ps)).toArray⟩, .string { data := #[c] }] w fun e w' => e = .returned (.slice (some ⟨w.heap.size, 0, none⟩) (ps.length + 1) (ps.length + 1)) ∧ w' = w.alloc (.cells ((p :: ps).map fun q => Value.string ⟨q.toArray⟩).toArray 9) := by
  obtain ⟨m, hm⟩ := hw.ml
  have hc : Lib.countB ⟨(joined c (p :: ps)).toArray⟩ { data := #[c] } = ps.length := count_joined c p ps h
  refine (Tryz.strings_Split ⟨(joined c (p :: ps)).toArray⟩ { data := #[c] } m w (by rw [Lib.size_eq]; exact hs) hm (Nat.le_refl 1)).mono ?_
  rintro e w' ⟨rfl, rfl⟩
  rw [hc]
  refine ⟨rfl, ?_⟩
  have hd : (Lib.splitB { data := #[c] } 0 ps.length ⟨(joined c (p :: ps)).toArray⟩).map (fun s => s.data.toList) = p :: ps := by
    rw [Lib.splitB_data]; exact split_joined c p ps h
  have e1 : (Lib.splitB { data := #[c] } 0 ps.length ⟨(joined c (p :: ps)).toArray⟩).map Value.string = (p :: ps).map fun q => Value.string ⟨q.toArray⟩ := by
    refine Eq.trans ?_ (congrArg (List.map fun q => Value.string ⟨q.toArray⟩) hd)
    rw [List.map_map]
    rfl
  rw [e1]
end Go.Proofs.YtkljakeccfnakaaGreatDoor
