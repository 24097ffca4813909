/-
  The library's contracts of strings.Builder, HasPrefix, CutPrefix, TrimPrefix and Repeat, laid at this program's numbers.
-/
import Derived.Shelf.Strings.Builder1
import Derived.Shelf.Strings.BuilderF
import Derived.Shelf.Strings.BuilderK
import Derived.Shelf.Strings.Prefix
import Derived.Shelf.Small.Wraps
import Derived.Shelf.Strings.Repeat
import Derived.Test.YtkndjbmlkfpfoaaGreatDoorProg
import Derived.Test.YtkndjbmlkfpfoaaGreatDoorZDecAllToSm
import Derived.Test.YtkndjbmlkfpfoaaGreatDoorZPBToPR
import Derived.Laws.BitsAll
import Derived.Laws.Shifts
import Derived.Lib.OthersKept

namespace Go.Proofs.YtkndjbmlkfpfoaaGreatDoor
open Go.Shelf Go.RowKit

def sh166_ren : Go.Shelf.Ren := ⟨fun | 166 => 67 | 240 => 91 | 276 => 111 | n => n, fun | 0 => 0 | 3 => 3 | 4 => 4 | 9 => 9 | 20 => 20 | 37 => 38 | 70 => 84 | 72 => 86 | 75 => 137 | 164 => 181 | 5 => 5 | 80 => 91 | n => n, fun | n => n⟩
theorem sh166 : Go.Proofs.Lays.n166 Tryz.prog sh166_ren := {
  mixed := by kernel_rfl
  f166 := Tryz.func67.trans (congrArg some (by kernel_rfl))
  f240 := Tryz.func91.trans (congrArg some (by kernel_rfl))
  f276 := Tryz.func111.trans (congrArg some (by kernel_rfl))
  t0 := Tryz.underlying0
  a0 := Tryz.isAgg0
  z0 := Tryz.sizeOf0
  v0 := Tryz.zeroValue0
  t3 := Tryz.underlying3
  a3 := Tryz.isAgg3
  z3 := Tryz.sizeOf3
  v3 := Tryz.zeroValue3
  t4 := Tryz.underlying4
  a4 := Tryz.isAgg4
  z4 := Tryz.sizeOf4
  v4 := Tryz.zeroValue4
  t9 := Tryz.underlying9
  a9 := Tryz.isAgg9
  z9 := Tryz.sizeOf9
  v9 := Tryz.zeroValue9
  t20 := Tryz.underlying20
  a20 := Tryz.isAgg20
  z20 := Tryz.sizeOf20
  v20 := Tryz.zeroValue20
  t37 := Tryz.underlying38
  a37 := Tryz.isAgg38
  z37 := Tryz.sizeOf38
  v37 := Tryz.zeroValue38
  t70 := Tryz.underlying84
  a70 := Tryz.isAgg84
  z70 := Tryz.sizeOf84
  v70 := Tryz.zeroValue84
  t72 := Tryz.underlying86
  a72 := Tryz.isAgg86
  z72 := Tryz.sizeOf86
  v72 := Tryz.zeroValue86
  t75 := Tryz.underlying137
  a75 := Tryz.isAgg137
  z75 := Tryz.sizeOf137
  v75 := Tryz.zeroValue137
  t164 := Tryz.underlying181
  a164 := Tryz.isAgg181
  z164 := Tryz.sizeOf181
  v164 := Tryz.zeroValue181 }

theorem shX166 : Builder.Extra Tryz.prog sh166_ren := {
  sizeBuilder := by kernel_rfl
  liesBuilder := by kernel_rfl
  t5 := Tryz.underlying5
  a5 := Tryz.isAgg5
  z5 := Tryz.sizeOf5
  v5 := Tryz.zeroValue5
  infoByte := by kernel_rfl
  cellsByte := by kernel_rfl
  sizeByte := by kernel_rfl
  neB5 := by decide }

def sh167_ren : Go.Shelf.Ren := ⟨fun | 167 => 69 | 240 => 91 | 276 => 111 | n => n, fun | 0 => 0 | 4 => 4 | 5 => 5 | 9 => 9 | 20 => 20 | 37 => 38 | 70 => 84 | 72 => 86 | 75 => 137 | 164 => 181 | 80 => 91 | n => n, fun | n => n⟩
theorem sh167 : Go.Proofs.Lays.n167 Tryz.prog sh167_ren := {
  mixed := by kernel_rfl
  f167 := Tryz.func69.trans (congrArg some (by kernel_rfl))
  f240 := Tryz.func91.trans (congrArg some (by kernel_rfl))
  f276 := Tryz.func111.trans (congrArg some (by kernel_rfl))
  t0 := Tryz.underlying0
  a0 := Tryz.isAgg0
  z0 := Tryz.sizeOf0
  v0 := Tryz.zeroValue0
  t4 := Tryz.underlying4
  a4 := Tryz.isAgg4
  z4 := Tryz.sizeOf4
  v4 := Tryz.zeroValue4
  t5 := Tryz.underlying5
  a5 := Tryz.isAgg5
  z5 := Tryz.sizeOf5
  v5 := Tryz.zeroValue5
  t9 := Tryz.underlying9
  a9 := Tryz.isAgg9
  z9 := Tryz.sizeOf9
  v9 := Tryz.zeroValue9
  t20 := Tryz.underlying20
  a20 := Tryz.isAgg20
  z20 := Tryz.sizeOf20
  v20 := Tryz.zeroValue20
  t37 := Tryz.underlying38
  a37 := Tryz.isAgg38
  z37 := Tryz.sizeOf38
  v37 := Tryz.zeroValue38
  t70 := Tryz.underlying84
  a70 := Tryz.isAgg84
  z70 := Tryz.sizeOf84
  v70 := Tryz.zeroValue84
  t72 := Tryz.underlying86
  a72 := Tryz.isAgg86
  z72 := Tryz.sizeOf86
  v72 := Tryz.zeroValue86
  t75 := Tryz.underlying137
  a75 := Tryz.isAgg137
  z75 := Tryz.sizeOf137
  v75 := Tryz.zeroValue137
  t164 := Tryz.underlying181
  a164 := Tryz.isAgg181
  z164 := Tryz.sizeOf181
  v164 := Tryz.zeroValue181 }

theorem shX167 : Builder.Extra Tryz.prog sh167_ren := {
  sizeBuilder := by kernel_rfl
  liesBuilder := by kernel_rfl
  t5 := Tryz.underlying5
  a5 := Tryz.isAgg5
  z5 := Tryz.sizeOf5
  v5 := Tryz.zeroValue5
  infoByte := by kernel_rfl
  cellsByte := by kernel_rfl
  sizeByte := by kernel_rfl
  neB5 := by decide }

def sh169_ren : Go.Shelf.Ren := ⟨fun | 169 => 31 | n => n, fun | 0 => 0 | 3 => 3 | 9 => 9 | 37 => 38 | 70 => 84 | 72 => 86 | 127 => 145 | 5 => 5 | n => n, fun | n => n⟩
theorem sh169 : Go.Proofs.Lays.n169 Tryz.prog sh169_ren := {
  mixed := by kernel_rfl
  f169 := Tryz.func31.trans (congrArg some (by kernel_rfl))
  t0 := Tryz.underlying0
  a0 := Tryz.isAgg0
  z0 := Tryz.sizeOf0
  v0 := Tryz.zeroValue0
  t3 := Tryz.underlying3
  a3 := Tryz.isAgg3
  z3 := Tryz.sizeOf3
  v3 := Tryz.zeroValue3
  t9 := Tryz.underlying9
  a9 := Tryz.isAgg9
  z9 := Tryz.sizeOf9
  v9 := Tryz.zeroValue9
  t37 := Tryz.underlying38
  a37 := Tryz.isAgg38
  z37 := Tryz.sizeOf38
  v37 := Tryz.zeroValue38
  t70 := Tryz.underlying84
  a70 := Tryz.isAgg84
  z70 := Tryz.sizeOf84
  v70 := Tryz.zeroValue84
  t72 := Tryz.underlying86
  a72 := Tryz.isAgg86
  z72 := Tryz.sizeOf86
  v72 := Tryz.zeroValue86
  t127 := Tryz.underlying145
  a127 := Tryz.isAgg145
  z127 := Tryz.sizeOf145
  v127 := Tryz.zeroValue145 }

theorem shX169 : Builder.Extra Tryz.prog sh169_ren := {
  sizeBuilder := by kernel_rfl
  liesBuilder := by kernel_rfl
  t5 := Tryz.underlying5
  a5 := Tryz.isAgg5
  z5 := Tryz.sizeOf5
  v5 := Tryz.zeroValue5
  infoByte := by kernel_rfl
  cellsByte := by kernel_rfl
  sizeByte := by kernel_rfl
  neB5 := by decide }

def sh99_ren : Go.Shelf.Ren := ⟨fun | 99 => 86 | 206 => 106 | n => n, fun | 3 => 3 | 4 => 4 | 9 => 9 | n => n, fun | n => n⟩
theorem sh99 : Go.Proofs.Lays.n99 Tryz.prog sh99_ren := {
  mixed := by kernel_rfl
  f99 := Tryz.func86.trans (congrArg some (by kernel_rfl))
  f206 := Tryz.func106.trans (congrArg some (by kernel_rfl))
  t3 := Tryz.underlying3
  a3 := Tryz.isAgg3
  z3 := Tryz.sizeOf3
  v3 := Tryz.zeroValue3
  t4 := Tryz.underlying4
  a4 := Tryz.isAgg4
  z4 := Tryz.sizeOf4
  v4 := Tryz.zeroValue4
  t9 := Tryz.underlying9
  a9 := Tryz.isAgg9
  z9 := Tryz.sizeOf9
  v9 := Tryz.zeroValue9 }

def sh103_ren : Go.Shelf.Ren := ⟨fun | 103 => 118 | 206 => 106 | 210 => 136 | n => n, fun | 3 => 3 | 4 => 4 | 9 => 9 | 24 => 188 | n => n, fun | n => n⟩
theorem sh103 : Go.Proofs.Lays.n103 Tryz.prog sh103_ren := {
  mixed := by kernel_rfl
  f103 := Tryz.func118.trans (congrArg some (by kernel_rfl))
  f206 := Tryz.func106.trans (congrArg some (by kernel_rfl))
  f210 := Tryz.func136.trans (congrArg some (by kernel_rfl))
  t3 := Tryz.underlying3
  a3 := Tryz.isAgg3
  z3 := Tryz.sizeOf3
  v3 := Tryz.zeroValue3
  t4 := Tryz.underlying4
  a4 := Tryz.isAgg4
  z4 := Tryz.sizeOf4
  v4 := Tryz.zeroValue4
  t9 := Tryz.underlying9
  a9 := Tryz.isAgg9
  z9 := Tryz.sizeOf9
  v9 := Tryz.zeroValue9
  t24 := Tryz.underlying188
  a24 := Tryz.isAgg188
  z24 := Tryz.sizeOf188
  v24 := Tryz.zeroValue188 }

def sh101_ren : Go.Shelf.Ren := ⟨fun | 101 => 102 | 206 => 106 | 208 => 115 | n => n, fun | 3 => 3 | 4 => 4 | 9 => 9 | n => n, fun | n => n⟩
theorem sh101 : Go.Proofs.Lays.n101 Tryz.prog sh101_ren := {
  mixed := by kernel_rfl
  f101 := Tryz.func102.trans (congrArg some (by kernel_rfl))
  f206 := Tryz.func106.trans (congrArg some (by kernel_rfl))
  f208 := Tryz.func115.trans (congrArg some (by kernel_rfl))
  t3 := Tryz.underlying3
  a3 := Tryz.isAgg3
  z3 := Tryz.sizeOf3
  v3 := Tryz.zeroValue3
  t4 := Tryz.underlying4
  a4 := Tryz.isAgg4
  z4 := Tryz.sizeOf4
  v4 := Tryz.zeroValue4
  t9 := Tryz.underlying9
  a9 := Tryz.isAgg9
  z9 := Tryz.sizeOf9
  v9 := Tryz.zeroValue9 }

def sh105_ren : Go.Shelf.Ren := ⟨fun | 99 => 86 | 105 => 113 | 165 => 128 | 166 => 67 | 169 => 31 | 170 => 129 | 206 => 106 | 212 => 127 | 240 => 91 | 241 => 146 | 263 => 144 | 264 => 145 | 276 => 111 | 277 => 154 | n => n, fun | 0 => 0 | 3 => 3 | 4 => 4 | 5 => 5 | 9 => 9 | 20 => 20 | 37 => 38 | 46 => 198 | 51 => 214 | 53 => 179 | 70 => 84 | 72 => 86 | 75 => 137 | 76 => 138 | 109 => 199 | 127 => 145 | 146 => 218 | 148 => 220 | 164 => 181 | 80 => 91 | n => n, fun | n => n⟩
theorem sh105 : Go.Proofs.Lays.n105 Tryz.prog sh105_ren := {
  mixed := by kernel_rfl
  f99 := Tryz.func86.trans (congrArg some (by kernel_rfl))
  f105 := Tryz.func113.trans (congrArg some (by kernel_rfl))
  f165 := Tryz.func128.trans (congrArg some (by kernel_rfl))
  f166 := Tryz.func67.trans (congrArg some (by kernel_rfl))
  f169 := Tryz.func31.trans (congrArg some (by kernel_rfl))
  f170 := Tryz.func129.trans (congrArg some (by kernel_rfl))
  f206 := Tryz.func106.trans (congrArg some (by kernel_rfl))
  f212 := Tryz.func127.trans (congrArg some (by kernel_rfl))
  f240 := Tryz.func91.trans (congrArg some (by kernel_rfl))
  f241 := Tryz.func146.trans (congrArg some (by kernel_rfl))
  f263 := Tryz.func144.trans (congrArg some (by kernel_rfl))
  f264 := Tryz.func145.trans (congrArg some (by kernel_rfl))
  f276 := Tryz.func111.trans (congrArg some (by kernel_rfl))
  f277 := Tryz.func154.trans (congrArg some (by kernel_rfl))
  t0 := Tryz.underlying0
  a0 := Tryz.isAgg0
  z0 := Tryz.sizeOf0
  v0 := Tryz.zeroValue0
  t3 := Tryz.underlying3
  a3 := Tryz.isAgg3
  z3 := Tryz.sizeOf3
  v3 := Tryz.zeroValue3
  t4 := Tryz.underlying4
  a4 := Tryz.isAgg4
  z4 := Tryz.sizeOf4
  v4 := Tryz.zeroValue4
  t5 := Tryz.underlying5
  a5 := Tryz.isAgg5
  z5 := Tryz.sizeOf5
  v5 := Tryz.zeroValue5
  t9 := Tryz.underlying9
  a9 := Tryz.isAgg9
  z9 := Tryz.sizeOf9
  v9 := Tryz.zeroValue9
  t20 := Tryz.underlying20
  a20 := Tryz.isAgg20
  z20 := Tryz.sizeOf20
  v20 := Tryz.zeroValue20
  t37 := Tryz.underlying38
  a37 := Tryz.isAgg38
  z37 := Tryz.sizeOf38
  v37 := Tryz.zeroValue38
  t46 := Tryz.underlying198
  a46 := Tryz.isAgg198
  z46 := Tryz.sizeOf198
  v46 := Tryz.zeroValue198
  t51 := Tryz.underlying214
  a51 := Tryz.isAgg214
  z51 := Tryz.sizeOf214
  v51 := Tryz.zeroValue214
  t53 := Tryz.underlying179
  a53 := Tryz.isAgg179
  z53 := Tryz.sizeOf179
  v53 := Tryz.zeroValue179
  t70 := Tryz.underlying84
  a70 := Tryz.isAgg84
  z70 := Tryz.sizeOf84
  v70 := Tryz.zeroValue84
  t72 := Tryz.underlying86
  a72 := Tryz.isAgg86
  z72 := Tryz.sizeOf86
  v72 := Tryz.zeroValue86
  t75 := Tryz.underlying137
  a75 := Tryz.isAgg137
  z75 := Tryz.sizeOf137
  v75 := Tryz.zeroValue137
  t76 := Tryz.underlying138
  a76 := Tryz.isAgg138
  z76 := Tryz.sizeOf138
  v76 := Tryz.zeroValue138
  t109 := Tryz.underlying199
  a109 := Tryz.isAgg199
  z109 := Tryz.sizeOf199
  v109 := Tryz.zeroValue199
  t127 := Tryz.underlying145
  a127 := Tryz.isAgg145
  z127 := Tryz.sizeOf145
  v127 := Tryz.zeroValue145
  t146 := Tryz.underlying218
  a146 := Tryz.isAgg218
  z146 := Tryz.sizeOf218
  v146 := Tryz.zeroValue218
  t148 := Tryz.underlying220
  a148 := Tryz.isAgg220
  z148 := Tryz.sizeOf220
  v148 := Tryz.zeroValue220
  t164 := Tryz.underlying181
  a164 := Tryz.isAgg181
  z164 := Tryz.sizeOf181
  v164 := Tryz.zeroValue181 }

theorem writeString_k (B b : Nat) (bs : List Value) (s : ByteArray) (w : World) (h : Lib.IsBuilderF 86 5 B b bs w) (hlen : bs.length + s.size ≤ 140737488355328) (hBw : B ≤ w.heap.size) :
    Calls Tryz.prog 67 #[.pointer (some ⟨b, 0, none⟩), .string s] w fun e w' => e = .returned (.tuple #[.int .i64 s.size, .nilIface]) ∧ (Lib.BuilderAtF 86 5 B b (.pointer (some ⟨b, 0, none⟩)) (bs ++ Lib.strCells s) w' ∧ Below B w w' ∧ Lib.OthersKept 5 (some b) w w') :=
  Any.Builder_WriteString_k sh166 shX166 B b bs s w h hlen hBw

theorem writeByte_k (B b : Nat) (bs : List Value) (c : Int) (w : World) (h : Lib.IsBuilderF 86 5 B b bs w) (hlen : bs.length + 1 ≤ 140737488355328) (hBw : B ≤ w.heap.size) :
    Calls Tryz.prog 69 #[.pointer (some ⟨b, 0, none⟩), .int .u8 c] w fun e w' => e = .returned .nilIface ∧ (Lib.BuilderAtF 86 5 B b (.pointer (some ⟨b, 0, none⟩)) (bs ++ [.int .u8 c]) w' ∧ Below B w w' ∧ Lib.OthersKept 5 (some b) w w') :=
  Any.Builder_WriteByte_k sh167 shX167 B b bs c w h hlen hBw

theorem string_any_k (B b : Nat) (l : List UInt8) (w : World) (h : Lib.IsBuilderF 86 5 B b (Lib.byteCells l) w) (hBw : B ≤ w.heap.size) :
    Calls Tryz.prog 31 #[.pointer (some ⟨b, 0, none⟩)] w fun e w' => e = .returned (.string ⟨l.toArray⟩) ∧ Below B w w' ∧ Lib.OthersKept 5 (some b) w w' :=
  (Any.Builder_String_any_k sh169 shX169 B b l w h hBw).mono fun _ _ h => ⟨h.1, h.2.2.1, h.2.2.2⟩

theorem hasPrefix_q (s p : ByteArray) (w : World) :
    Calls Tryz.prog 86 #[.string s, .string p] w fun e w' => e = .returned (.bool (Lib.hasPrefix s.data.toList p.data.toList)) ∧ w' = w :=
  Any.strings_HasPrefix sh99 s p w

theorem cutPrefix_q (s p : ByteArray) (w : World) :
    Calls Tryz.prog 118 #[.string s, .string p] w fun e w' => e = .returned (.tuple #[.string ⟨(Lib.trimPrefix s.data.toList p.data.toList).toArray⟩, .bool (Lib.hasPrefix s.data.toList p.data.toList)]) ∧ w' = w :=
  Any.strings_CutPrefix sh103 s p w

theorem trimPrefix_q (s p : ByteArray) (w : World) :
    Calls Tryz.prog 102 #[.string s, .string p] w fun e w' => e = .returned (.string ⟨(Lib.trimPrefix s.data.toList p.data.toList).toArray⟩) ∧ w' = w :=
  Any.strings_TrimPrefix sh101 s p w

end Go.Proofs.YtkndjbmlkfpfoaaGreatDoor

/-
  strconv.FormatInt at base 16, of a number that is no greater than a rune.
-/
set_option linter.unusedSimpArgs false
set_option linter.unusedVariables false
namespace Go.Proofs.YtkndjbmlkfpfoaaGreatDoor
open Go.RowKit Go.Lib

theorem toList_inj {x y : ByteArray} (h : x.data.toList = y.data.toList) : x = y := by
  cases x; cases y; congr; exact Array.toList_inj.1 h

theorem repeat_one (s : ByteArray) (w : World) : Calls Tryz.prog 113 #[.string s, .int .i64 1] w fun e w' => e = .returned (.string s) ∧ w' = w := Go.Proofs.Any.strings_Repeat_one sh105 s w
theorem repeat_zero (s : ByteArray) (w : World) : Calls Tryz.prog 113 #[.string s, .int .i64 0] w fun e w' => e = .returned (.string ⟨#[]⟩) ∧ w' = w := Go.Proofs.Any.strings_Repeat_zero sh105 s w

/-- the one cell of a table of the library that is read -/
def Tab (w : World) : Prop := w.cell? ⟨4, 15, none⟩ = some (.int .u8 4) ∧ 4 < w.heap.size
theorem Tab.below {w w' : World} {B : Nat} (h : Tab w) (hb : Below B w w') (hB : 4 < B) : Tab w' :=
  ⟨(hb.cell (p := ⟨4, 15, none⟩) hB).trans h.1, Nat.lt_of_lt_of_le h.2 hb.size⟩

set_option maxHeartbeats 400000 in
theorem tz_in (w : World) (hT : Tab w) : Calls Tryz.prog 143 #[.int .u64 16] w fun e w' => e = .returned (.int .i64 4) ∧ w = w' := by
  have hc := hT.1
  have e1 : IntKind.u64.wrap (-16) = 18446744073709551600 := by decide
  have e2 : bits BinOp.and IntKind.u64 16 18446744073709551600 = 16 := by decide
  have e3 : IntKind.u64.wrap (16 * 285870213051353865) = 4573923408821661840 := by decide
  go_enter Tryz.func143, Tryz.ntmps143
  go_wp2
  go_ret
  exact ⟨rfl, rfl⟩

def fbF : Nat → Nat → List UInt8
  | 0, u => [hxD u]
  | f + 1, u => if u < 16 then [hxD u] else fbF f (u / 16) ++ [hxD (u % 16)]
theorem fbF_fuel : ∀ (f g u : Nat), u ≤ f → u ≤ g → fbF f u = fbF g u
  | 0, 0, u, _, _ => rfl
  | 0, g + 1, u, h, _ => by unfold fbF; rw [if_pos (by omega)]
  | f + 1, 0, u, _, h => by unfold fbF; rw [if_pos (by omega)]
  | f + 1, g + 1, u, h, h2 => by
    unfold fbF
    split
    · rfl
    · rw [fbF_fuel f g (u / 16) (by omega) (by omega)]
def fb (u : Nat) : List UInt8 := fbF u u
theorem fb_small {u : Nat} (h : u < 16) : fb u = [hxD u] := by unfold fb; cases u with | zero => rfl | succ n => unfold fbF; rw [if_pos h]
theorem fb_step {u : Nat} (h : ¬ u < 16) : fb u = fb (u / 16) ++ [hxD (u % 16)] := by
  unfold fb
  obtain ⟨n, rfl⟩ : ∃ n, u = n + 1 := ⟨u - 1, by omega⟩
  rw [show fbF (n + 1) (n + 1) = fbF n ((n + 1) / 16) ++ [hxD ((n + 1) % 16)] by rw [fbF]; rw [if_neg h]]
  rw [fbF_fuel n ((n + 1) / 16) ((n + 1) / 16) (by omega) (Nat.le_refl _)]
theorem hxF_fuel : ∀ (f g u : Nat), u ≤ f → u ≤ g → hxF f u = hxF g u
  | 0, 0, u, _, _ => rfl
  | 0, g + 1, u, h, _ => by unfold hxF; rw [if_pos (by omega)]
  | f + 1, 0, u, _, h => by unfold hxF; rw [if_pos (by omega)]
  | f + 1, g + 1, u, h, h2 => by
    unfold hxF
    split
    · rfl
    · rw [hxF_fuel f g (u / 16) (by omega) (by omega)]
theorem fb_hx : ∀ (f u : Nat), u ≤ f → u ≠ 0 → fb u = hxL u
  | 0, u, h, h0 => by omega
  | f + 1, u, h, h0 => by
    have e : hxL u = hxL (u / 16) ++ [hxD (u % 16)] := by
      unfold hxL
      obtain ⟨n, rfl⟩ : ∃ n, u = n + 1 := ⟨u - 1, by omega⟩
      rw [show hxF (n + 1) (n + 1) = hxF n ((n + 1) / 16) ++ [hxD ((n + 1) % 16)] by rw [hxF]; rw [if_neg h0]]
      rw [hxF_fuel n ((n + 1) / 16) ((n + 1) / 16) (by omega) (Nat.le_refl _)]
    by_cases h1 : u < 16
    · rw [fb_small h1, e, show u / 16 = 0 by omega, show u % 16 = u by omega]; rfl
    · rw [fb_step h1, e, fb_hx f (u / 16) (by omega) (by omega)]

theorem dig_get (m : Nat) (h : m < 16) (hq : m < (⟨#[48, 49, 50, 51, 52, 53, 54, 55, 56, 57, 97, 98, 99, 100, 101, 102, 103, 104, 105, 106, 107, 108, 109, 110, 111, 112, 113, 114, 115, 116, 117, 118, 119, 120, 121, 122]⟩ : ByteArray).size) : ((⟨#[48, 49, 50, 51, 52, 53, 54, 55, 56, 57, 97, 98, 99, 100, 101, 102, 103, 104, 105, 106, 107, 108, 109, 110, 111, 112, 113, 114, 115, 116, 117, 118, 119, 120, 121, 122]⟩ : ByteArray)[m]'hq).toNat = (hxD m).toNat := by
  rcases (by omega : m = 0 ∨ m = 1 ∨ m = 2 ∨ m = 3 ∨ m = 4 ∨ m = 5 ∨ m = 6 ∨ m = 7 ∨ m = 8 ∨ m = 9 ∨ m = 10 ∨ m = 11 ∨ m = 12 ∨ m = 13 ∨ m = 14 ∨ m = 15) with rfl | rfl | rfl | rfl | rfl | rfl | rfl | rfl | rfl | rfl | rfl | rfl | rfl | rfl | rfl | rfl <;> rfl

theorem fold_push (ns : List Int) : ∀ s : ByteArray, ns.foldl (fun r n => r.push (UInt8.ofNat n.toNat)) s = ⟨(s.data.toList ++ ns.map fun z => UInt8.ofNat z.toNat).toArray⟩ := by
  induction ns with
  | nil => intro s; simp
  | cons n ns ih => intro s; rw [List.foldl_cons, ih]; simp [ByteArray.push]

/-- bytes to a text -/
theorem conv_bytes (w : World) (a : Addr) (len cap : Nat) (zs : List Int) (hl : len = zs.length) (hc : ∀ j, j < zs.length → w.cell? (a.add j) = some (.int .u8 (zs.getD j 0))) :
    (convert 38 9 (.slice (some a) len cap)).run Tryz.prog w = .ok (.string (ofL (zs.map fun z => UInt8.ofNat z.toNat))) w := by
  subst hl
  rw [run_convert_bytes_string _ 38 9 5 _ _ _ Tryz.underlying38 Tryz.underlying5 Tryz.underlying9]
  have h := run_loadCells (P := Tryz.prog) w a zs.length (fun j => .int .u8 (zs.getD j 0)) hc
  rw [range_map_take _ zs zs.length (Nat.le_refl _), List.take_length] at h
  rw [run_bytesToString w a zs.length cap zs h, fold_push]
  simp [ofL]

theorem u8_back (l : List UInt8) : (l.map fun b => ((b.toNat : Nat) : Int)).map (fun z => UInt8.ofNat z.toNat) = l := by
  induction l with
  | nil => rfl
  | cons x l ih => simp only [List.map_cons, ih]; simp

/-- digits that were laid into an array, from its end on -/
def Lays65 (W : World) (b i : Nat) (ds : List UInt8) : Prop := ∃ arr, W.heap[b]? = some (.cells arr 215 (0, 0)) ∧ arr.size = 65 ∧ i + ds.length = 65 ∧ ∀ j d, ds[j]? = some d → arr[i + j]? = some (.int .u8 (d.toNat : Int))
theorem Lays65.cell {W : World} {b i : Nat} {ds : List UInt8} (h : Lays65 W b i ds) (k : Nat) (hk : k < 65) : (∃ v, W.cell? ⟨b, k, none⟩ = some v) ∧ W.frozen? ⟨b, k, none⟩ = false := by
  obtain ⟨arr, hb, hs, _, _⟩ := h
  exact ⟨⟨arr[k]'(by omega), by simp [World.cell?, hb, show k < arr.size by omega]⟩, by simp [World.frozen?, hb]⟩
theorem Lays65.store {W : World} {b i : Nat} {ds : List UInt8} (h : Lays65 W b i ds) (hi : 0 < i) (d : UInt8) : Lays65 (W.setCell ⟨b, i - 1, none⟩ (.int .u8 (d.toNat : Int))) b (i - 1) (d :: ds) := by
  obtain ⟨arr, hb, hs, hl, ha⟩ := h
  refine ⟨_, heap_setCell_same W b (i - 1) arr _ _ hb, by simpa using hs, by simp; omega, fun j x hx => ?_⟩
  cases j with
  | zero =>
    simp at hx
    subst hx
    simp [show i - 1 < arr.size by omega]
  | succ j =>
    have := ha j x (by simpa using hx)
    rw [show i - 1 + (j + 1) = i + j by omega, Array.getElem?_setIfInBounds_ne (by omega)]
    exact this
theorem Lays65.new (W : World) (arr : Array Value) (hs : arr.size = 65) : Lays65 (W.alloc (.cells arr 215)) W.heap.size 65 [] :=
  ⟨arr, (by show (W.heap.push _)[W.heap.size]? = _; simp), hs, rfl, fun j d h => by cases h⟩
theorem Lays65.conv {W : World} {b i : Nat} {ds : List UInt8} (h : Lays65 W b i ds) (cap : Nat) : (convert 38 9 (.slice (some ⟨b, i, none⟩) (65 - i) cap)).run Tryz.prog W = .ok (.string (ofL ds)) W := by
  obtain ⟨arr, hb, hs, hl, ha⟩ := h
  have := conv_bytes W ⟨b, i, none⟩ (65 - i) cap (ds.map fun b => ((b.toNat : Nat) : Int)) (by simp; omega) (fun j hj => by
    simp at hj
    have h1 := ha j ds[j] (by simp [hj])
    have e : (⟨b, i, none⟩ : Addr).add j = ⟨b, i + j, none⟩ := by unfold Addr.add; split <;> simp_all
    rw [e]
    simp [World.cell?, hb, h1, hj])
  rw [u8_back] at this
  exact this

theorem slice65 (b k : Nat) (hk : k < 65) (W : World) : (Instr.sliceAt 215 (.pointer (some ⟨b, 0, none⟩)) (some (.int .i64 (k : Int))) none none).run Tryz.prog W = .ok (.slice (some ⟨b, k, none⟩) (65 - k) (65 - k)) W := by
  have hal : Tryz.prog.arrayLen 215 = 65 := by kernel_rfl
  rw [run_sliceAt_array_l W 215 ⟨b, 0, none⟩ (by kernel_rfl) .i64 (k : Int) (by omega) (by rw [hal]; omega), hal]
  have hz : ∀ W, (Go.sizeOf (Tryz.prog.elem 215)).run Tryz.prog W = .ok 1 W := fun W => by kernel_rfl
  rw [hz]
  simp [Result.andThen, slicedAt, sliced, Addr.add]
  rw [if_neg (by omega)]
  split
  · rename_i h; rw [h]
  · rfl

set_option maxRecDepth 100000 in
set_option maxHeartbeats 2000000 in
theorem formatBits_in (N : Nat) (hN : N ≤ 1114111) (w : World) (hT : Tab w) :
    Calls Tryz.prog 126 #[.slice none 0 0, .int .u64 (N : Int), .int .i64 16, .bool false, .bool false] w fun e w' => e = .returned (.tuple #[.slice none 0 0, .string (ofL (fb N))]) ∧ Below w.heap.size w w' := by
  have htz := hide (tz_in)
  have e1 : bits BinOp.and IntKind.i64 16 15 = 0 := by decide
  go_enter Tryz.func126, Tryz.ntmps126
  go_wp2_with (first | (go_at_call 143; refine (unhide htz _ (hT.below (B := w.heap.size) ((Below.refl _ _).alloc (Nat.le_refl _) _) hT.2)).mono ?_; rintro e w' ⟨rfl, rfl⟩) | (go_at_call 142; go_in))
  clear htz hT e1
  go_loopw [1, 13] (fun a b wr => ∃ (u i : Nat) (ds : List UInt8), a = .int .u64 u ∧ b = .int .i64 i ∧ i ≤ 65 ∧ u ≤ 1114111 ∧ Hid (u * 16 ^ ds.length ≤ N ∧ fb N = fb u ++ ds ∧ Lays65 wr w.heap.size i ds) ∧ Hid (u = 0 → ds.length = 0) ∧ Below w.heap.size w wr) (fun a _ _ => (Lib.intOf a).toNat)
  case atStart => exact ⟨N, 65, [], rfl, rfl, by omega, hN, hide ⟨by simp, by simp, Lays65.new _ _ (by simp)⟩, hide (fun _ => rfl), (Below.refl _ _).alloc (Nat.le_refl _) _⟩
  case round =>
    obtain ⟨u, i, ds, rfl, rfl, hi, hu, H, H0, hB⟩ := hrel
    by_cases h16 : u < 16
    · have i1 : (u : Int) < 16 := by omega
      have hi0 : 0 < i := by
        have h1 := (unhide H).1
        obtain ⟨_, _, _, h, _⟩ := (unhide H).2.2
        by_cases h5 : ds.length ≤ 5
        · omega
        · by_cases hu0 : u = 0
          · have := unhide H0 hu0; omega
          · have h2 : 16 ^ 6 ≤ 16 ^ ds.length := Nat.pow_le_pow_right (by decide) (by omega)
            have h3 : 1 * 16 ^ 6 ≤ u * 16 ^ ds.length := Nat.mul_le_mul (by omega) h2
            omega
      obtain ⟨⟨v0, c0⟩, f0⟩ := (unhide H).2.2.cell (i - 1) (by omega)
      obtain ⟨k, rfl⟩ : ∃ k, i = k + 1 := ⟨i - 1, by omega⟩
      simp only [Nat.add_sub_cancel] at c0 f0
      have hdg := dig_get u h16 (show u < 36 by omega)
      have s1 : ((k + 1 : Nat) : Int) - 1 = (k : Int) := by omega
      have H2 := Lays65.store (unhide H).2.2 hi0 (hxD u)
      have hcv := H2.conv
      rw [show hxD u :: ds = fb u ++ ds by rw [fb_small h16]; rfl, ← (unhide H).2.1] at hcv
      rw [Nat.add_sub_cancel] at hcv
      have hsl := slice65 w.heap.size k (by omega)
      go_wp2
      go_ret2
      exact ⟨rfl, hB.setCell (Nat.le_refl _) _⟩
    · have hds : ds.length ≤ 5 := by
        have h1 := (unhide H).1
        by_cases h5 : ds.length ≤ 5
        · exact h5
        · have h2 : 16 ^ 6 ≤ 16 ^ ds.length := Nat.pow_le_pow_right (by decide) (by omega)
          have h3 : 16 * 16 ^ 6 ≤ u * 16 ^ ds.length := Nat.mul_le_mul (by omega) h2
          omega
      have hi0 : 0 < i := by have := (unhide H).2.2; obtain ⟨_, _, _, h, _⟩ := this; omega
      obtain ⟨⟨v0, c0⟩, f0⟩ := (unhide H).2.2.cell (i - 1) (by omega)
      obtain ⟨k, rfl⟩ : ∃ k, i = k + 1 := ⟨i - 1, by omega⟩
      simp only [Nat.add_sub_cancel] at c0 f0
      have hm : bits BinOp.and IntKind.u64 (u : Int) 15 = ((u % 16 : Nat) : Int) := by
        have := u64_and_nat u 15 (by omega) (by omega)
        rw [nat_mask4] at this
        exact this
      have hdg := dig_get (u % 16) (by omega) (show u % 16 < 36 by omega)
      have i1 : (16 : Int) ≤ (u : Int) := by omega
      have s1 : ((k + 1 : Nat) : Int) - 1 = (k : Int) := by omega
      have H2 := hide (Lays65.store (unhide H).2.2 hi0 (hxD (u % 16)))
      go_wp2
      go_roundw
      case rel =>
        refine ⟨u / 16, k, hxD (u % 16) :: ds, by simp, rfl, by omega, by omega, hide ⟨?_, ?_, ?_⟩, hide (fun h => by omega), hB.setCell (Nat.le_refl _) _⟩
        · have h1 := (unhide H).1
          rw [List.length_cons, Nat.pow_succ]
          have h2 : u / 16 * (16 ^ ds.length * 16) ≤ u * 16 ^ ds.length := by
            rw [Nat.mul_comm (16 ^ ds.length) 16, ← Nat.mul_assoc]
            exact Nat.mul_le_mul_right _ (by omega)
          omega
        · rw [(unhide H).2.1, fb_step h16]; simp
        · have := unhide H2
          rw [Nat.add_sub_cancel] at this
          exact this
      case measure => simp [Lib.intOf]; omega

set_option maxHeartbeats 400000 in
/-- a number's hexadecimal digits -/
theorem format_in (N : Nat) (hN : N ≤ 1114111) (w : World) (hT : Tab w) :
    Calls Tryz.prog 97 #[.int .i64 (N : Int), .int .i64 16] w fun e w' => e = .returned (.string (ofL (fb N))) ∧ Below w.heap.size w w' := by
  have hfb := fun W h => hide (formatBits_in N hN W h)
  have i1 : ¬ (N : Int) < 0 := by omega
  have u1 : IntKind.u64.wrap (N : Int) = (N : Int) := by rw [IntKind.wrap_u64]; omega
  go_enter Tryz.func97, Tryz.ntmps97
  go_wp2_with (first | (go_at_call 126; refine (unhide (hfb _ hT)).mono ?_; rintro e w' ⟨rfl, hB⟩) | go_in)
  go_ret
  exact ⟨rfl, hB⟩

theorem fb_len (b : Nat) (h : b < 256) : (fb b).length = if b < 16 then 1 else 2 := by
  by_cases h1 : b < 16
  · rw [fb_small h1, if_pos h1]; rfl
  · rw [fb_step h1, fb_small (by omega), if_neg h1]; rfl

set_option maxHeartbeats 800000 in
theorem byteEscape_in (b : Nat) (h : b < 256) (w : World) (hT : Tab w) :
    Calls Tryz.prog 95 #[.int .u8 (b : Int)] w fun e w' => e = .returned (.string (ofL (bxL b))) ∧ Below w.heap.size w w' := by
  have hf := fun W h => hide (format_in b (by omega) W h)
  have hl := fb_len b h
  have hs : (ofL (fb b)).size = (fb b).length := ofL_size _
  by_cases h1 : b < 16
  · rw [if_pos h1] at hl
    have e0 : (ofL (fb b)).size = 1 := by rw [hs, hl]
    have hr := fun W => hide (repeat_one ⟨#[48]⟩ W)
    have he : (⟨#[92, 120]⟩ : ByteArray) ++ ⟨#[48]⟩ ++ ofL (fb b) = ofL (bxL b) := by
      rw [fb_small h1]
      apply toList_inj
      simp [ofL, bxL, show b / 16 = 0 by omega, show b % 16 = b by omega]
      rfl
    have HE := hide he
    clear hl hs he h1
    go_enter Tryz.func95, Tryz.ntmps95
    go_wp2_with (first | (go_at_call 97; refine (unhide (hf _ hT)).mono ?_; rintro e w' ⟨rfl, hB⟩) | (go_at_call 113; refine (unhide (hr _)).mono ?_; rintro e w' ⟨rfl, rfl⟩))
    go_ret
    exact ⟨by rw [← unhide HE]; rfl, hB⟩
  · rw [if_neg h1] at hl
    have e0 : (ofL (fb b)).size = 2 := by rw [hs, hl]
    have hr := fun W => hide (repeat_zero ⟨#[48]⟩ W)
    have he : (⟨#[92, 120]⟩ : ByteArray) ++ ⟨#[]⟩ ++ ofL (fb b) = ofL (bxL b) := by
      rw [fb_step h1, fb_small (by omega)]
      apply toList_inj
      simp [ofL, bxL]
    have HE := hide he
    clear hl hs he h1
    go_enter Tryz.func95, Tryz.ntmps95
    go_wp2_with (first | (go_at_call 97; refine (unhide (hf _ hT)).mono ?_; rintro e w' ⟨rfl, hB⟩) | (go_at_call 113; refine (unhide (hr _)).mono ?_; rintro e w' ⟨rfl, rfl⟩))
    go_ret
    exact ⟨by rw [← unhide HE]; rfl, hB⟩

end Go.Proofs.YtkndjbmlkfpfoaaGreatDoor

/-
  What quote.Quote answers: the text in quotes.
-/
set_option linter.unusedSimpArgs false
set_option linter.unusedVariables false
namespace Go.Proofs.YtkndjbmlkfpfoaaGreatDoor
open Go.RowKit Go.Lib Go.Maps

theorem builderAtF_kept {T e : TypeId} {B b : Nat} {p : Value} {bs : List Value} {W W' : World} (h : BuilderAtF T e B b p bs W) (hg : Below W.heap.size W W') : BuilderAtF T e B b p bs W' := by
  obtain ⟨hB, v, hb, hown, hne⟩ := h
  have keep : ∀ {k : Nat} {c : Array Value} {t : TypeId} {fz : Nat × Nat}, W.heap[k]? = some (.cells c t fz) → W'.heap[k]? = some (.cells c t fz) := by
    intro k c t fz hk
    have hlt : k < W.heap.size := (Array.getElem?_eq_some_iff.1 hk).1
    exact (hg.block k hlt).trans hk
  refine ⟨hB, v, keep hb, ⟨hown.1, ?_⟩, hne⟩
  rcases hown.2 with hn | ⟨g, cap, cur, fz, hv, hbg, hgg, rest⟩
  · exact .inl hn
  · exact .inr ⟨g, cap, cur, fz, hv, hbg, keep hgg, rest⟩
theorem isB_below {T e : TypeId} {B b : Nat} {bs : List Value} {W W' : World} (h : IsBuilderF T e B b bs W) (hg : Below W.heap.size W W') : IsBuilderF T e B b bs W' :=
  h.elim (fun x => .inl (builderAtF_kept x hg)) (fun x => .inr (builderAtF_kept x hg))

/-- a Builder, an iterator over a text, and a map beside them -/
def QSt (kt et : TypeId) (w wr : World) (s : ByteArray) (m r : Nat) (D : DataW Unit) (pos : Nat) (acc : List UInt8) : Prop :=
  IsBuilderF 86 5 w.heap.size w.heap.size (byteCells acc) wr ∧ wr.heap[r]? = some (.stringIter s pos) ∧ wr.ownsMap Tryz.prog kt (plainElem Tryz.prog et) m 5 D ∧ Below w.heap.size w wr ∧ w.heap.size < m ∧ w.heap.size < r ∧ m ≠ r ∧ w.heap.size ≤ wr.heap.size

theorem QSt.next {kt et : TypeId} {w wr : World} {s : ByteArray} {m r : Nat} {D : DataW Unit} {pos : Nat} {acc : List UInt8} (h : QSt kt et w wr s m r D pos acc) (p' : Nat) : QSt kt et w (wr.iterAt r s p') s m r D p' acc := by
  obtain ⟨h1, h2, ⟨es, clock, hb, rst⟩, h4, h5, h6, h7, h8⟩ := h
  exact ⟨h1.iterAt h2 p', iterAt_heap wr r s pos p' h2, ⟨es, clock, (iterAt_other wr r m s p' h7).trans hb, rst⟩, below_iterAt h4 (by omega) s p', h5, h6, h7, by rw [iterAt_size]; exact h8⟩
theorem QSt.below {kt et : TypeId} {w wr wr' : World} {s : ByteArray} {m r : Nat} {D : DataW Unit} {pos : Nat} {acc : List UInt8} (h : QSt kt et w wr s m r D pos acc) (hb : Below wr.heap.size wr wr') : QSt kt et w wr' s m r D pos acc := by
  obtain ⟨h1, h2, h3, h4, h5, h6, h7, h8⟩ := h
  exact ⟨isB_below h1 hb, (hb.block r (Array.getElem?_eq_some_iff.1 h2).1).trans h2, ownsMap_below h3 hb h3.lt, h4.trans (hb.mono h8), h5, h6, h7, Nat.le_trans h8 hb.size⟩
theorem QSt.wrote {kt et : TypeId} {w wr wr' : World} {s : ByteArray} {m r : Nat} {D : DataW Unit} {pos : Nat} {acc x : List UInt8} {p : Value} {cs : List Value} (h : QSt kt et w wr s m r D pos acc)
    (hw : BuilderAtF 86 5 w.heap.size w.heap.size (.pointer (some ⟨w.heap.size, 0, none⟩)) (byteCells acc ++ cs) wr') (hc : cs = byteCells x) (hB : Below w.heap.size wr wr') (hK : OthersKept 5 (some w.heap.size) wr wr') : QSt kt et w wr' s m r D pos (acc ++ x) := by
  obtain ⟨h1, h2, ⟨es, clock, hb, rst⟩, h4, h5, h6, h7, h8⟩ := h
  refine ⟨?_, hK.iter h2 (by omega), ⟨es, clock, hK m _ hb (fun e => by have := Option.some.inj e; omega) (fun _ _ e => by cases e), rst⟩, h4.trans hB, h5, h6, h7, Nat.le_trans h8 hB.size⟩
  rw [byteCells_append, ← hc]
  exact .inr hw
theorem QSt.isB {kt et : TypeId} {w wr : World} {s : ByteArray} {m r : Nat} {D : DataW Unit} {pos : Nat} {acc : List UInt8} (h : QSt kt et w wr s m r D pos acc) : IsBuilderF 86 5 w.heap.size w.heap.size (byteCells acc) wr := h.1

theorem lit_val {D : DataW Unit} {k : Lit} {z : DataW Unit} {q : IntKind} {c c' : Int} (h1 : D.atKey k z = .lit (.int q c)) (h2 : D.atKey k z = .lit (.int q c')) : c = c' := by
  have := h1.symm.trans h2
  cases this
  rfl

theorem ofNat_cell (n : Nat) (h : n < 256) : [Value.int .u8 (n : Int)] = byteCells [UInt8.ofNat n] := by
  have := u8n n h
  show [Value.int .u8 (n : Int)] = [Value.int .u8 ((UInt8.ofNat n).toNat : Int)]
  rw [this]
theorem strCells_ofL (l : List UInt8) : strCells (ofL l) = byteCells l := by unfold strCells; rw [ofL_list]; rfl
theorem encL_size (n : Int) : (encL n).length = (Utf8.encode n).size := by
  unfold encL
  generalize Utf8.encode n = b
  simp [bL]
theorem ltN_lt (r : Nat) : ltN r < 256 := by unfold ltN; (repeat' split) <;> omega
theorem fb_le (N : Nat) (h : N ≤ 1114111) : (fb N).length ≤ 6 := by
  by_cases h0 : N = 0
  · subst h0; decide
  · rw [fb_hx N N (Nat.le_refl _) h0]
    unfold hxL
    rw [hxF_map, List.length_map]
    exact dgF_len N N 6 (by omega)
theorem rn_le (s : ByteArray) (i : Nat) (h : i < s.size) : rn s i ≤ 1114111 := by have := rn_valid s i h; omega
theorem qP_len (s : ByteArray) (i : Nat) (h : i < s.size) : (qP s i).length ≤ 10 := by
  unfold qP
  (repeat' split)
  · simp
  · simp [bxL]
  · have := rn_le s i h
    have h2 := fb_le (rn s i) this
    by_cases h0 : rn s i = 0
    · rw [h0]; decide
    · rw [fb_hx _ _ (Nat.le_refl _) h0] at h2
      simp [uxL]; omega
  · have := encL_le4 ((rn s i : Nat) : Int); omega

set_option maxRecDepth 100000 in
set_option maxHeartbeats 4000000 in
theorem quote_in (s : ByteArray) (hs : s.size ≤ 1000000000) (w : World) (hT : Tab w) :
    Calls Tryz.prog 74 #[.string s] w fun e w' => e = .returned (.string (qT s)) ∧ Below w.heap.size w w' := by
  have hlet := fun W => hide (letters_in W)
  have hsm : s.size ≤ maxLen := by unfold maxLen; omega
  have e1 : ∀ o, (w.alloc o).heap.size = w.heap.size + 1 := fun o => by simp
  go_enter Tryz.func74, Tryz.ntmps74
  go_wp2_with (first | (go_at_call 94; refine (unhide (hlet _)).mono ?_; rintro e W1 ⟨rfl, ⟨D, hown, hkn⟩, hb1⟩; rw [e1] at hown hb1 ⊢) | fail)
  have e2 : (w.alloc (.cells #[.pointer none, .slice none 0 0] 86)).heap.size = w.heap.size + 1 := e1 _
  have hI1 := isB_below (IsBuilderF.of (fresh_isBuilder 86 5 w)) (by rw [e2]; exact hb1)
  have hBw1 : Below w.heap.size w W1 := ((Below.refl _ w).alloc (Nat.le_refl _) _).trans (hb1.mono (Nat.le_succ _))
  have hz1 : w.heap.size + 1 < W1.heap.size := hown.lt
  refine (writeByte_k w.heap.size w.heap.size [] 34 W1 hI1 (by simp) hBw1.size).mono ?_
  rintro e W2 ⟨rfl, hI2, hB2, hK2⟩
  have hz2 : w.heap.size + 1 < W2.heap.size := Nat.lt_of_lt_of_le hz1 hB2.size
  obtain ⟨es, clock, hbm, rst⟩ := hown
  have hm2 : W2.ownsMap Tryz.prog 21 (plainElem Tryz.prog 5) (w.heap.size + 1) 5 D := ⟨es, clock, hK2 _ _ hbm (fun e => by have := Option.some.inj e; omega) (fun _ _ e => by cases e), rst⟩
  have Q0 : QSt 21 5 w (W2.iter s 0) s (w.heap.size + 1) W2.heap.size D 0 [34] :=
    ⟨(show IsBuilderF 86 5 w.heap.size w.heap.size (byteCells [34]) W2 from .inr hI2).alloc _, World.iter_heap W2 s 0, hm2.alloc _, (hBw1.trans hB2).alloc (by omega) _, by omega, by omega, by omega, by show w.heap.size ≤ (W2.alloc _).heap.size; simp; omega⟩
  have HQ0 := hide Q0
  have Hkn := hide hkn
  clear hI1 hBw1 hz1 hI2 hB2 hK2 hbm rst hm2 Q0 hkn hb1 e1 e2 hlet
  obtain ⟨R, hR⟩ : ∃ R, W2.heap.size = R := ⟨_, rfl⟩
  go_wp2
  rw [hR] at HQ0
  go_loopw [] (fun wr => ∃ (pos : Nat) (l : List Nat), pos ≤ s.size ∧ Hid (allL s = l ++ frm s pos ∧ (qL s l).length ≤ 10 * pos ∧ wr.iterPos R = pos) ∧ Hid (QSt 21 5 w wr s (w.heap.size + 1) R D pos (34 :: qL s l))) (fun wr => s.size - wr.iterPos R)
  case atStart => exact ⟨0, [], Nat.zero_le _, hide ⟨by rw [allL_frm]; rfl, by simp [qL], by simp [World.iterPos, (unhide HQ0).2.1]⟩, HQ0⟩
  case round =>
    obtain ⟨pos, l, hpl, HL, HQ⟩ := hrel
    by_cases hp : pos < s.size
    · have hnx : ∀ ty, (Instr.next (.pointer (some ⟨R, 0, none⟩)) true ty).run Tryz.prog wr = .ok (.tuple #[.bool true, .int .i64 (pos : Int), .int .i32 (rn s pos : Nat)]) (wr.iterAt R s (pos + wd s pos)) := fun ty => run_next_any_at wr R s pos ty (unhide HQ).2.1 hp
      have HQ1 := hide ((unhide HQ).next (pos + wd s pos))
      obtain ⟨V0, hV0⟩ : ∃ V, wr.iterAt R s (pos + wd s pos) = V := ⟨_, rfl⟩
      rw [hV0] at hnx HQ1
      clear HQ hV0
      have hwf : (Lit.int .i32 ((rn s pos : Nat) : Int)).wf = true := WalkArith.wf_i32 (by have := rn_le s pos hp; omega)
      have LB := hide (show (34 :: qL s l).length + 100 ≤ 140737488355328 by have := (unhide HL).2.1; simp; omega)
      have HN := hide (show allL s = (l ++ [pos]) ++ frm s (pos + wd s pos) ∧ (qL s (l ++ [pos])).length ≤ 10 * (pos + wd s pos) by
        refine ⟨by rw [(unhide HL).1, frm_step s pos hp]; simp, ?_⟩
        have h1 := (unhide HL).2.1
        have h2 := qP_len s pos hp
        have h3 := wd_pos s pos hp
        rw [qL_snoc, List.length_append]; omega)
      have HT := hide (show Tab V0 from hT.below (unhide HQ1).2.2.2.1 hT.2)
      by_cases hl : ltN (rn s pos) ≠ 0
      · have hh : Maps.has D (.int .i32 ((rn s pos : Nat) : Int)) = true := by rw [(unhide Hkn (rn s pos)).1]; simpa using hl
        have HP := hide (show qP s pos = [92, UInt8.ofNat (ltN (rn s pos))] by unfold qP; rw [if_pos hl])
        have Hat := hide ((unhide Hkn (rn s pos)).2 hl)
        clear hl
        go_wp2_with (at_lookup; refine wpList_lookup_own_ok_int _ rfl _ _ 166 rfl 21 5 .u8 lawI32 Tryz.underlying166 Tryz.underlying5 (zeroU8 _) (w.heap.size + 1) 5 _ rfl (unhide HQ1).2.2.1 _ _ rfl (keyOf_int_mk Tryz.underlying21 hwf) ?_; intro c hat hwc; have HC := hide (lit_val hat (unhide Hat _)); clear hat hwc)
        refine (writeByte_k w.heap.size w.heap.size _ 92 V0 (unhide HQ1).isB (by have := unhide LB; simp only [byteCells_length, List.length_append, List.length_cons, List.length_nil, ofL_size] at this ⊢; omega) (unhide HQ1).2.2.2.2.2.2.2).mono ?_
        rintro e V1 ⟨rfl, hI, hB, hK⟩
        have HQ2 := hide ((unhide HQ1).wrote (p := .nilIface) hI (ofNat_cell 92 (by decide)) hB hK)
        clear hI hB hK HQ1
        go_wp2_with fail
        refine (writeByte_k w.heap.size w.heap.size _ c V1 (unhide HQ2).isB (by have := unhide LB; simp only [byteCells_length, List.length_append, List.length_cons, List.length_nil, ofL_size] at this ⊢; omega) (unhide HQ2).2.2.2.2.2.2.2).mono ?_
        rintro e V2 ⟨rfl, hI, hB, hK⟩
        have HQ3 := hide ((unhide HQ2).wrote (p := .nilIface) hI (by rw [unhide HC]; exact ofNat_cell _ (ltN_lt _)) hB hK)
        clear hI hB hK HQ2
        go_wp2
        go_roundw
        case rel => exact ⟨pos + wd s pos, l ++ [pos], (wd_le s pos hp).1, hide ⟨(unhide HN).1, (unhide HN).2, by simp [World.iterPos, (unhide HQ3).2.1]⟩, by rw [show 34 :: qL s (l ++ [pos]) = ((34 :: qL s l) ++ [UInt8.ofNat 92]) ++ [UInt8.ofNat (ltN (rn s pos))] by rw [qL_snoc, unhide HP]; simp]; exact HQ3⟩
        case measure => rw [(unhide HL).2.2]; simp only [World.iterPos, (unhide HQ3).2.1]; have := wd_pos s pos hp; omega
      · have hh : Maps.has D (.int .i32 ((rn s pos : Nat) : Int)) = false := by rw [(unhide Hkn (rn s pos)).1]; simpa using hl
        have hraw := fun W => hide (raw_in s pos W hsm hp)
        by_cases hr : rawB s pos = true
        · have HP := hide (show qP s pos = bxL (by_ s pos) by unfold qP; rw [if_neg hl, if_pos hr])
          have hgt := by_get s pos hp
          have hbe := hide (byteEscape_in (by_ s pos) (by_lt s pos) V0 (unhide HT))
          clear hl
          go_wp2_with (first | (at_lookup; refine wpList_lookup_own_ok_int _ rfl _ _ 166 rfl 21 5 .u8 lawI32 Tryz.underlying166 Tryz.underlying5 (zeroU8 _) (w.heap.size + 1) 5 _ rfl (unhide HQ1).2.2.1 _ _ rfl (keyOf_int_mk Tryz.underlying21 hwf) ?_; intro c hat hwc; clear hat hwc) | (go_at_call 82; refine (unhide (hraw _)).mono ?_; rintro e w' ⟨rfl, rfl⟩) | (go_at_call 95; refine (unhide hbe).mono ?_; rintro e V1 ⟨rfl, hB1⟩) | fail)
          have HQ2 := hide ((unhide HQ1).below hB1)
          clear HQ1 hB1 hraw
          refine (writeString_k w.heap.size w.heap.size _ (ofL (bxL (by_ s pos))) V1 (unhide HQ2).isB (by have := unhide LB; simp only [byteCells_length, List.length_append, List.length_cons, List.length_nil, ofL_size, bxL] at this ⊢; omega) (unhide HQ2).2.2.2.2.2.2.2).mono ?_
          rintro e V2 ⟨rfl, hI, hB, hK⟩
          have HQ3 := hide ((unhide HQ2).wrote (p := .nilIface) hI (strCells_ofL _) hB hK)
          clear hI hB hK HQ2
          go_wp2
          go_roundw
          case rel => exact ⟨pos + wd s pos, l ++ [pos], (wd_le s pos hp).1, hide ⟨(unhide HN).1, (unhide HN).2, by simp [World.iterPos, (unhide HQ3).2.1]⟩, by rw [show 34 :: qL s (l ++ [pos]) = (34 :: qL s l) ++ bxL (by_ s pos) by rw [qL_snoc, unhide HP]; simp]; exact HQ3⟩
          case measure => rw [(unhide HL).2.2]; simp only [World.iterPos, (unhide HQ3).2.1]; have := wd_pos s pos hp; omega
        · have hr' : rawB s pos = false := by simpa using hr
          have hhid := hide (hidden_in (rn s pos) (rn_le s pos hp) V0)
          by_cases hd : hidN (rn s pos) = true
          · have HP := hide (show qP s pos = uxL (rn s pos) by unfold qP; rw [if_neg hl, if_neg hr, if_pos hd])
            have hn0 : rn s pos ≠ 0 := by intro e; rw [e] at hd; exact absurd hd (by decide)
            have he : (⟨#[92, 117, 123]⟩ : ByteArray) ++ ofL (fb (rn s pos)) ++ ⟨#[125]⟩ = ofL (uxL (rn s pos)) := by
              rw [fb_hx _ _ (Nat.le_refl _) hn0]
              apply toList_inj
              simp [ofL, uxL]
            have HE := hide he
            have hw64 : wrap64 ((rn s pos : Nat) : Int) = ((rn s pos : Nat) : Int) := by have := rn_le s pos hp; unfold wrap64; omega
            have hz6 : (ofL (fb (rn s pos))).size ≤ 6 := by rw [ofL_size]; exact fb_le _ (rn_le s pos hp)
            have hf := fun W h => hide (format_in (rn s pos) (rn_le s pos hp) W h)
            have HLU := hide (show (uxL (rn s pos)).length ≤ 10 by have := qP_len s pos hp; rw [unhide HP] at this; exact this)
            clear hl hr he hn0
            go_wp2_with (first | (at_lookup; refine wpList_lookup_own_ok_int _ rfl _ _ 166 rfl 21 5 .u8 lawI32 Tryz.underlying166 Tryz.underlying5 (zeroU8 _) (w.heap.size + 1) 5 _ rfl (unhide HQ1).2.2.1 _ _ rfl (keyOf_int_mk Tryz.underlying21 hwf) ?_; intro c hat hwc; clear hat hwc) | (go_at_call 82; refine (unhide (hraw _)).mono ?_; rintro e w' ⟨rfl, rfl⟩) | (go_at_call 96; refine (unhide hhid).mono ?_; rintro e V1 ⟨rfl, hB1⟩) | fail)
            refine (unhide (hf V1 ((unhide HT).below hB1 (unhide HT).2))).mono ?_
            rintro e V2 ⟨rfl, hB2⟩
            go_wp2_with fail
            have HQ2 := hide (((unhide HQ1).below hB1).below hB2)
            clear HQ1 hB1 hB2 hraw
            rw [unhide HE]
            refine (writeString_k w.heap.size w.heap.size _ (ofL (uxL (rn s pos))) V2 (unhide HQ2).isB (by have := unhide LB; have := unhide HLU; simp only [byteCells_length, List.length_append, List.length_cons, List.length_nil, ofL_size] at *; omega) (unhide HQ2).2.2.2.2.2.2.2).mono ?_
            rintro e V3 ⟨rfl, hI, hB, hK⟩
            have HQ3 := hide ((unhide HQ2).wrote (p := .nilIface) hI (strCells_ofL _) hB hK)
            clear hI hB hK HQ2
            go_wp2
            go_roundw
            case rel => exact ⟨pos + wd s pos, l ++ [pos], (wd_le s pos hp).1, hide ⟨(unhide HN).1, (unhide HN).2, by simp [World.iterPos, (unhide HQ3).2.1]⟩, by rw [show 34 :: qL s (l ++ [pos]) = (34 :: qL s l) ++ uxL (rn s pos) by rw [qL_snoc, unhide HP]; simp]; exact HQ3⟩
            case measure => rw [(unhide HL).2.2]; simp only [World.iterPos, (unhide HQ3).2.1]; have := wd_pos s pos hp; omega
          · have HP := hide (show qP s pos = encL (rn s pos : Nat) by unfold qP; rw [if_neg hl, if_neg hr, if_neg hd])
            have hd' : hidN (rn s pos) = false := by simpa using hd
            have henc := fun W => hide (encode_any ((rn s pos : Nat) : Int) W)
            have HL4 := hide (show (Utf8.encode ((rn s pos : Nat) : Int)).size ≤ 4 by rw [← encL_size]; exact encL_le4 _)
            clear hl hr hd
            go_wp2_with (first | (at_lookup; refine wpList_lookup_own_ok_int _ rfl _ _ 166 rfl 21 5 .u8 lawI32 Tryz.underlying166 Tryz.underlying5 (zeroU8 _) (w.heap.size + 1) 5 _ rfl (unhide HQ1).2.2.1 _ _ rfl (keyOf_int_mk Tryz.underlying21 hwf) ?_; intro c hat hwc; clear hat hwc) | (go_at_call 82; refine (unhide (hraw _)).mono ?_; rintro e w' ⟨rfl, rfl⟩) | (go_at_call 96; refine (unhide hhid).mono ?_; rintro e V1 ⟨rfl, hB1⟩) | (go_at_call 98; refine (unhide (henc _)).mono ?_; rintro e w' ⟨rfl, rfl⟩) | fail)
            have HQ2 := hide ((unhide HQ1).below hB1)
            clear HQ1 hB1 hraw
            refine (writeString_k w.heap.size w.heap.size _ (Utf8.encode ((rn s pos : Nat) : Int)) V1 (unhide HQ2).isB (by have := unhide LB; have h4 := unhide HL4; simp only [byteCells_length, List.length_cons] at this ⊢; omega) (unhide HQ2).2.2.2.2.2.2.2).mono ?_
            rintro e V3 ⟨rfl, hI, hB, hK⟩
            have HQ3 := hide ((unhide HQ2).wrote (x := encL (rn s pos : Nat)) (p := .nilIface) hI rfl hB hK)
            clear hI hB hK HQ2
            go_wp2
            go_roundw
            case rel => exact ⟨pos + wd s pos, l ++ [pos], (wd_le s pos hp).1, hide ⟨(unhide HN).1, (unhide HN).2, by simp [World.iterPos, (unhide HQ3).2.1]⟩, by rw [show 34 :: qL s (l ++ [pos]) = (34 :: qL s l) ++ encL (rn s pos : Nat) by rw [qL_snoc, unhide HP]; simp]; exact HQ3⟩
            case measure => rw [(unhide HL).2.2]; simp only [World.iterPos, (unhide HQ3).2.1]; have := wd_pos s pos hp; omega
    · have hnx : ∀ ty, (Instr.next (.pointer (some ⟨R, 0, none⟩)) true ty).run Tryz.prog wr = .ok (.tuple #[.bool false]) wr := fun ty => run_next_end_at wr R s pos ty (unhide HQ).2.1 hp
      have LB := hide (show (34 :: qL s l).length + 100 ≤ 140737488355328 by have := (unhide HL).2.1; simp; omega)
      have HA := hide (show qT s = ⟨((34 :: qL s l) ++ [UInt8.ofNat 34]).toArray⟩ by
        have h1 := (unhide HL).1
        rw [frm_end s pos hp, List.append_nil] at h1
        unfold qT; rw [h1]; rfl)
      go_wp2_with fail
      refine (writeByte_k w.heap.size w.heap.size _ 34 wr (unhide HQ).isB (by have := unhide LB; simp only [byteCells_length, List.length_append, List.length_cons, List.length_nil, ofL_size] at this ⊢; omega) (unhide HQ).2.2.2.2.2.2.2).mono ?_
      rintro e V1 ⟨rfl, hI, hB, hK⟩
      have HQ2 := hide ((unhide HQ).wrote (p := .nilIface) hI (ofNat_cell 34 (by decide)) hB hK)
      clear hI hB hK HQ
      go_wp2_with fail
      refine (string_any_k w.heap.size w.heap.size _ V1 (unhide HQ2).isB (unhide HQ2).2.2.2.2.2.2.2).mono ?_
      rintro e V2 ⟨rfl, hB, hK⟩
      go_wp2
      go_ret
      exact ⟨by rw [unhide HA]; rfl, (unhide HQ2).2.2.2.1.trans hB⟩

end Go.Proofs.YtkndjbmlkfpfoaaGreatDoor
