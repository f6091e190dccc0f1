/-
  A world in which the listed package-level variables hold what the program's text lays: the witness of the cards on texts.
-/
/-
  The shelf's numbers at this dump, for strconv.Atoi and strconv.Itoa.
-/
/-
  Terms as forests, plainly: a list of terms is nothing, or a first term (its kind, its number, its own arguments) and those behind it. No program, no memory.
-/
/-
  How a list of terms lies in memory: three cells a term, one behind the other.
-/
import Derived.Test.YthfjmcomhccbaaaGreatDoorCards
import Derived.Test.YthfjmcomhccbaaaGreatDoorTie
import Derived.WalkKit
import Derived.ProofKit
import Derived.Lib.LaidIn
import Derived.Deep.DeepWitnessRowRef
import Derived.Shelf.Strconv.AtoiAll
import Derived.Shelf.Strconv.ErrVarAll
import Derived.Shelf.Strconv.Itoa3
import Derived.Ground.NamesProg
import Derived.Test.YthfjmcomhccbaaaGreatDoorProg
import Derived.Deep.Trees
import Derived.Below
namespace Go.Proofs.YthfjmcomhccbaaaGreatDoor
open Go.RowKit

theorem own : ownKnob Tryz.prog.godebug = none := by kernel_rfl
theorem laysOut : laidOutB Tryz.prog = true := by kernel_rfl
/-- A variable's block with other cells. -/
def put (cs : Array Value) : Obj → Obj
  | .cells _ t frozen => .cells cs t frozen
  | o => o
/-- The settled world with two blocks more (the two errors' texts), the six variables holding what is laid. -/
def LaidWorld (os : Os) (w0 : World) : Prop :=
  w0 = { World.holding Tryz.prog os ⟨#[.cells #[.string ⟨#[105, 110, 118, 97, 108, 105, 100, 32, 115, 121, 110, 116, 97, 120]⟩] 241, .cells #[.string ⟨#[118, 97, 108, 117, 101, 32, 111, 117, 116, 32, 111, 102, 32, 114, 97, 110, 103, 101]⟩] 241], #[], []⟩ with
    heap := (((((((((World.holding Tryz.prog os ⟨#[.cells #[.string ⟨#[105, 110, 118, 97, 108, 105, 100, 32, 115, 121, 110, 116, 97, 120]⟩] 241, .cells #[.string ⟨#[118, 97, 108, 117, 101, 32, 111, 117, 116, 32, 111, 102, 32, 114, 97, 110, 103, 101]⟩] 241], #[], []⟩).heap.modify 7
      (put #[.iface 239 (.pointer (some ⟨(World.settled Tryz.prog os).heap.size, 0, none⟩))])).modify 8
      (put #[.iface 239 (.pointer (some ⟨(World.settled Tryz.prog os).heap.size + 1, 0, none⟩))])).modify 4
      (put #[.int .u64 1, .int .u64 10, .int .u64 100, .int .u64 1000, .int .u64 10000, .int .u64 100000, .int .u64 1000000, .int .u64 10000000, .int .u64 100000000, .int .u64 1000000000, .int .u64 10000000000, .int .u64 100000000000, .int .u64 1000000000000, .int .u64 10000000000000, .int .u64 100000000000000, .int .u64 1000000000000000, .int .u64 10000000000000000, .int .u64 100000000000000000, .int .u64 1000000000000000000, .int .u64 10000000000000000000])).modify 5
      (put #[.int .u8 0, .int .u8 1, .int .u8 28, .int .u8 2, .int .u8 29, .int .u8 14, .int .u8 24, .int .u8 3, .int .u8 30, .int .u8 22, .int .u8 20, .int .u8 15, .int .u8 25, .int .u8 17, .int .u8 4, .int .u8 8, .int .u8 31, .int .u8 27, .int .u8 13, .int .u8 23, .int .u8 21, .int .u8 19, .int .u8 16, .int .u8 7, .int .u8 26, .int .u8 12, .int .u8 18, .int .u8 6, .int .u8 11, .int .u8 5, .int .u8 10, .int .u8 9])).modify 6
      (put #[.int .u8 0, .int .u8 1, .int .u8 56, .int .u8 2, .int .u8 57, .int .u8 49, .int .u8 28, .int .u8 3, .int .u8 61, .int .u8 58, .int .u8 42, .int .u8 50, .int .u8 38, .int .u8 29, .int .u8 17, .int .u8 4, .int .u8 62, .int .u8 47, .int .u8 59, .int .u8 36, .int .u8 45, .int .u8 43, .int .u8 51, .int .u8 22, .int .u8 53, .int .u8 39, .int .u8 33, .int .u8 30, .int .u8 24, .int .u8 18, .int .u8 12, .int .u8 5, .int .u8 63, .int .u8 55, .int .u8 48, .int .u8 27, .int .u8 60, .int .u8 41, .int .u8 37, .int .u8 16, .int .u8 46, .int .u8 35, .int .u8 44, .int .u8 21, .int .u8 52, .int .u8 32, .int .u8 23, .int .u8 11, .int .u8 54, .int .u8 26, .int .u8 40, .int .u8 15, .int .u8 34, .int .u8 20, .int .u8 31, .int .u8 10, .int .u8 25, .int .u8 14, .int .u8 19, .int .u8 9, .int .u8 13, .int .u8 8, .int .u8 7, .int .u8 6])).modify 3
      (put #[.string ⟨#[]⟩, .string ⟨#[]⟩, .string ⟨#[]⟩, .string ⟨#[112, 105]⟩, .string ⟨#[102, 110]⟩, .string ⟨#[]⟩, .string ⟨#[115, 105, 103]⟩, .string ⟨#[112, 97, 105, 114]⟩, .string ⟨#[102, 115, 116]⟩, .string ⟨#[115, 110, 100]⟩, .string ⟨#[117, 110, 105, 116]⟩, .string ⟨#[115, 116, 97, 114]⟩, .string ⟨#[101, 109, 112, 116, 121]⟩, .string ⟨#[97, 98, 115, 117, 114, 100]⟩, .string ⟨#[110, 97, 116]⟩, .string ⟨#[122, 101, 114, 111]⟩, .string ⟨#[115, 117, 99]⟩, .string ⟨#[114, 101, 99]⟩])).modify 1
      (put #[.int .u8 128, .int .u8 191, .int .u8 160, .int .u8 191, .int .u8 128, .int .u8 159, .int .u8 144, .int .u8 191, .int .u8 128, .int .u8 143, .int .u8 0, .int .u8 0, .int .u8 0, .int .u8 0, .int .u8 0, .int .u8 0, .int .u8 0, .int .u8 0, .int .u8 0, .int .u8 0, .int .u8 0, .int .u8 0, .int .u8 0, .int .u8 0, .int .u8 0, .int .u8 0, .int .u8 0, .int .u8 0, .int .u8 0, .int .u8 0, .int .u8 0, .int .u8 0])).modify 0
      (put #[.int .u8 240, .int .u8 240, .int .u8 240, .int .u8 240, .int .u8 240, .int .u8 240, .int .u8 240, .int .u8 240, .int .u8 240, .int .u8 240, .int .u8 240, .int .u8 240, .int .u8 240, .int .u8 240, .int .u8 240, .int .u8 240, .int .u8 240, .int .u8 240, .int .u8 240, .int .u8 240, .int .u8 240, .int .u8 240, .int .u8 240, .int .u8 240, .int .u8 240, .int .u8 240, .int .u8 240, .int .u8 240, .int .u8 240, .int .u8 240, .int .u8 240, .int .u8 240, .int .u8 240, .int .u8 240, .int .u8 240, .int .u8 240, .int .u8 240, .int .u8 240, .int .u8 240, .int .u8 240, .int .u8 240, .int .u8 240, .int .u8 240, .int .u8 240, .int .u8 240, .int .u8 240, .int .u8 240, .int .u8 240, .int .u8 240, .int .u8 240, .int .u8 240, .int .u8 240, .int .u8 240, .int .u8 240, .int .u8 240, .int .u8 240, .int .u8 240, .int .u8 240, .int .u8 240, .int .u8 240, .int .u8 240, .int .u8 240, .int .u8 240, .int .u8 240, .int .u8 240, .int .u8 240, .int .u8 240, .int .u8 240, .int .u8 240, .int .u8 240, .int .u8 240, .int .u8 240, .int .u8 240, .int .u8 240, .int .u8 240, .int .u8 240, .int .u8 240, .int .u8 240, .int .u8 240, .int .u8 240, .int .u8 240, .int .u8 240, .int .u8 240, .int .u8 240, .int .u8 240, .int .u8 240, .int .u8 240, .int .u8 240, .int .u8 240, .int .u8 240, .int .u8 240, .int .u8 240, .int .u8 240, .int .u8 240, .int .u8 240, .int .u8 240, .int .u8 240, .int .u8 240, .int .u8 240, .int .u8 240, .int .u8 240, .int .u8 240, .int .u8 240, .int .u8 240, .int .u8 240, .int .u8 240, .int .u8 240, .int .u8 240, .int .u8 240, .int .u8 240, .int .u8 240, .int .u8 240, .int .u8 240, .int .u8 240, .int .u8 240, .int .u8 240, .int .u8 240, .int .u8 240, .int .u8 240, .int .u8 240, .int .u8 240, .int .u8 240, .int .u8 240, .int .u8 240, .int .u8 240, .int .u8 240, .int .u8 240, .int .u8 240, .int .u8 241, .int .u8 241, .int .u8 241, .int .u8 241, .int .u8 241, .int .u8 241, .int .u8 241, .int .u8 241, .int .u8 241, .int .u8 241, .int .u8 241, .int .u8 241, .int .u8 241, .int .u8 241, .int .u8 241, .int .u8 241, .int .u8 241, .int .u8 241, .int .u8 241, .int .u8 241, .int .u8 241, .int .u8 241, .int .u8 241, .int .u8 241, .int .u8 241, .int .u8 241, .int .u8 241, .int .u8 241, .int .u8 241, .int .u8 241, .int .u8 241, .int .u8 241, .int .u8 241, .int .u8 241, .int .u8 241, .int .u8 241, .int .u8 241, .int .u8 241, .int .u8 241, .int .u8 241, .int .u8 241, .int .u8 241, .int .u8 241, .int .u8 241, .int .u8 241, .int .u8 241, .int .u8 241, .int .u8 241, .int .u8 241, .int .u8 241, .int .u8 241, .int .u8 241, .int .u8 241, .int .u8 241, .int .u8 241, .int .u8 241, .int .u8 241, .int .u8 241, .int .u8 241, .int .u8 241, .int .u8 241, .int .u8 241, .int .u8 241, .int .u8 241, .int .u8 241, .int .u8 241, .int .u8 2, .int .u8 2, .int .u8 2, .int .u8 2, .int .u8 2, .int .u8 2, .int .u8 2, .int .u8 2, .int .u8 2, .int .u8 2, .int .u8 2, .int .u8 2, .int .u8 2, .int .u8 2, .int .u8 2, .int .u8 2, .int .u8 2, .int .u8 2, .int .u8 2, .int .u8 2, .int .u8 2, .int .u8 2, .int .u8 2, .int .u8 2, .int .u8 2, .int .u8 2, .int .u8 2, .int .u8 2, .int .u8 2, .int .u8 2, .int .u8 19, .int .u8 3, .int .u8 3, .int .u8 3, .int .u8 3, .int .u8 3, .int .u8 3, .int .u8 3, .int .u8 3, .int .u8 3, .int .u8 3, .int .u8 3, .int .u8 3, .int .u8 35, .int .u8 3, .int .u8 3, .int .u8 52, .int .u8 4, .int .u8 4, .int .u8 4, .int .u8 68, .int .u8 241, .int .u8 241, .int .u8 241, .int .u8 241, .int .u8 241, .int .u8 241, .int .u8 241, .int .u8 241, .int .u8 241, .int .u8 241, .int .u8 241])) }
theorem laid_world (os : Os) : ∃ w0, LaidWorld os w0 := ⟨_, rfl⟩
theorem LaidWorld.os {os : Os} {w0 : World} (h : LaidWorld os w0) : w0.os = os := by
  unfold LaidWorld at h
  subst h
  rfl
set_option maxRecDepth 100000 in
theorem LaidWorld.met {os : Os} {w0 : World} (h : LaidWorld os w0) (args : Array Value) : laidMet Tryz.prog Rows.topSumsRow.laid (w0.forCall (fun _ _ => 0) ⟨#[], args, []⟩).memory := by
  unfold LaidWorld at h
  subst h
  exact (LaidIn.of_run [7, 8, 4, 5, 6, 3, 1, 0, (World.settled Tryz.prog default).heap.size, (World.settled Tryz.prog default).heap.size + 1] 8 (by kernel_rfl) (by kernel_rfl) (by kernel_rfl) (by kernel_rfl)).met
theorem LaidWorld.vars {os : Os} {w0 : World} (h : LaidWorld os w0) (args : Array Value) : (w0.forCall (fun _ _ => 0) ⟨#[], args, []⟩).variablesRefB Tryz.prog = true := by
  unfold LaidWorld at h
  subst h
  kernel_rfl
theorem LaidWorld.rest {os : Os} {w0 : World} (h : LaidWorld os w0) (args : Array Value) : ((w0.forCall (fun _ _ => 0) ⟨#[], args, []⟩).heap.toList.drop Tryz.prog.globals.size).take ((begin Tryz.prog (fun _ _ => 0) default).world.heap.size - Tryz.prog.globals.size) =
      (begin Tryz.prog (fun _ _ => 0) default).world.heap.toList.drop Tryz.prog.globals.size := by
  unfold LaidWorld at h
  subst h
  kernel_rfl
end Go.Proofs.YthfjmcomhccbaaaGreatDoor

namespace Go.Proofs.YthfjmcomhccbaaaGreatDoor
open Go.Shelf
def Tryz.laysAtoi_ren : Go.Shelf.Ren := ⟨fun | 172 => 120 | 244 => 137 | 245 => 138 | 247 => 146 | 279 => 147 | 280 => 148 | 281 => 149 | 282 => 150 | 287 => 168 | 316 => 61 | 171 => 121 | 205 => 169 | 321 => 175 | 322 => 176 | 243 => 139 | 246 => 151 | 283 => 87 | 284 => 88 | 285 => 89 | 286 => 90 | 129 => 113 | 317 => 112 | 318 => 114 | 319 => 115 | 320 => 116 | 337 => 134 | 338 => 135 | n => n, fun | 9 => 9 | 3 => 3 | 75 => 143 | 76 => 144 | 4 => 4 | 5 => 5 | 167 => 208 | 37 => 50 | 0 => 0 | 85 => 209 | 2 => 2 | 168 => 211 | 53 => 124 | 175 => 227 | 46 => 127 | 210 => 230 | 127 => 146 | 145 => 241 | 143 => 239 | 21 => 21 | 171 => 153 | 173 => 156 | 212 => 173 | 51 => 158 | 20 => 20 | 213 => 174 | 232 => 206 | 233 => 207 | 80 => 41 | n => n, fun | 15 => 7 | 16 => 8 | 17 => 4 | 18 => 5 | 19 => 6 | n => n⟩
theorem Tryz.laysAtoi : Go.Proofs.LaysC.n172 Tryz.prog Tryz.laysAtoi_ren := {
  mixed := by kernel_rfl
  f129 := Tryz.func113.trans (congrArg some (by kernel_rfl))
  f171 := Tryz.func121.trans (congrArg some (by kernel_rfl))
  f172 := Tryz.func120.trans (congrArg some (by kernel_rfl))
  f205 := Tryz.func169.trans (congrArg some (by kernel_rfl))
  f243 := Tryz.func139.trans (congrArg some (by kernel_rfl))
  f244 := Tryz.func137.trans (congrArg some (by kernel_rfl))
  f245 := Tryz.func138.trans (congrArg some (by kernel_rfl))
  f246 := Tryz.func151.trans (congrArg some (by kernel_rfl))
  f247 := Tryz.func146.trans (congrArg some (by kernel_rfl))
  f279 := Tryz.func147.trans (congrArg some (by kernel_rfl))
  f280 := Tryz.func148.trans (congrArg some (by kernel_rfl))
  f281 := Tryz.func149.trans (congrArg some (by kernel_rfl))
  f282 := Tryz.func150.trans (congrArg some (by kernel_rfl))
  f283 := Tryz.func87.trans (congrArg some (by kernel_rfl))
  f284 := Tryz.func88.trans (congrArg some (by kernel_rfl))
  f285 := Tryz.func89.trans (congrArg some (by kernel_rfl))
  f286 := Tryz.func90.trans (congrArg some (by kernel_rfl))
  f287 := Tryz.func168.trans (congrArg some (by kernel_rfl))
  f316 := Tryz.func61.trans (congrArg some (by kernel_rfl))
  f317 := Tryz.func112.trans (congrArg some (by kernel_rfl))
  f318 := Tryz.func114.trans (congrArg some (by kernel_rfl))
  f319 := Tryz.func115.trans (congrArg some (by kernel_rfl))
  f320 := Tryz.func116.trans (congrArg some (by kernel_rfl))
  f321 := Tryz.func175.trans (congrArg some (by kernel_rfl))
  f322 := Tryz.func176.trans (congrArg some (by kernel_rfl))
  f337 := Tryz.func134.trans (congrArg some (by kernel_rfl))
  f338 := Tryz.func135.trans (congrArg some (by kernel_rfl))
  t0 := Tryz.underlying0
  a0 := Tryz.isAgg0
  z0 := Tryz.sizeOf0
  v0 := Tryz.zeroValue0
  t2 := Tryz.underlying2
  a2 := Tryz.isAgg2
  z2 := Tryz.sizeOf2
  v2 := Tryz.zeroValue2
  t3 := Tryz.underlying3
  a3 := Tryz.isAgg3
  z3 := Tryz.sizeOf3
  v3 := Tryz.zeroValue3
  t4 := Tryz.underlying4
  a4 := Tryz.isAgg4
  z4 := Tryz.sizeOf4
  v4 := Tryz.zeroValue4
  t5 := Tryz.underlying5
  a5 := Tryz.isAgg5
  z5 := Tryz.sizeOf5
  v5 := Tryz.zeroValue5
  t9 := Tryz.underlying9
  a9 := Tryz.isAgg9
  z9 := Tryz.sizeOf9
  v9 := Tryz.zeroValue9
  t20 := Tryz.underlying20
  a20 := Tryz.isAgg20
  z20 := Tryz.sizeOf20
  v20 := Tryz.zeroValue20
  t21 := Tryz.underlying21
  a21 := Tryz.isAgg21
  z21 := Tryz.sizeOf21
  v21 := Tryz.zeroValue21
  t37 := Tryz.underlying50
  a37 := Tryz.isAgg50
  z37 := Tryz.sizeOf50
  v37 := Tryz.zeroValue50
  t46 := Tryz.underlying127
  a46 := Tryz.isAgg127
  z46 := Tryz.sizeOf127
  v46 := Tryz.zeroValue127
  t51 := Tryz.underlying158
  a51 := Tryz.isAgg158
  z51 := Tryz.sizeOf158
  v51 := Tryz.zeroValue158
  t53 := Tryz.underlying124
  a53 := Tryz.isAgg124
  z53 := Tryz.sizeOf124
  v53 := Tryz.zeroValue124
  t75 := Tryz.underlying143
  a75 := Tryz.isAgg143
  z75 := Tryz.sizeOf143
  v75 := Tryz.zeroValue143
  t76 := Tryz.underlying144
  a76 := Tryz.isAgg144
  z76 := Tryz.sizeOf144
  v76 := Tryz.zeroValue144
  t85 := Tryz.underlying209
  a85 := Tryz.isAgg209
  z85 := Tryz.sizeOf209
  v85 := Tryz.zeroValue209
  t127 := Tryz.underlying146
  a127 := Tryz.isAgg146
  z127 := Tryz.sizeOf146
  v127 := Tryz.zeroValue146
  t143 := Tryz.underlying239
  a143 := Tryz.isAgg239
  z143 := Tryz.sizeOf239
  v143 := Tryz.zeroValue239
  t145 := Tryz.underlying241
  a145 := Tryz.isAgg241
  z145 := Tryz.sizeOf241
  v145 := Tryz.zeroValue241
  t167 := Tryz.underlying208
  a167 := Tryz.isAgg208
  z167 := Tryz.sizeOf208
  v167 := Tryz.zeroValue208
  t168 := Tryz.underlying211
  a168 := Tryz.isAgg211
  z168 := Tryz.sizeOf211
  v168 := Tryz.zeroValue211
  t171 := Tryz.underlying153
  a171 := Tryz.isAgg153
  z171 := Tryz.sizeOf153
  v171 := Tryz.zeroValue153
  t173 := Tryz.underlying156
  a173 := Tryz.isAgg156
  z173 := Tryz.sizeOf156
  v173 := Tryz.zeroValue156
  t175 := Tryz.underlying227
  a175 := Tryz.isAgg227
  z175 := Tryz.sizeOf227
  v175 := Tryz.zeroValue227
  t210 := Tryz.underlying230
  a210 := Tryz.isAgg230
  z210 := Tryz.sizeOf230
  v210 := Tryz.zeroValue230
  t212 := Tryz.underlying173
  a212 := Tryz.isAgg173
  z212 := Tryz.sizeOf173
  v212 := Tryz.zeroValue173
  t213 := Tryz.underlying174
  a213 := Tryz.isAgg174
  z213 := Tryz.sizeOf174
  t232 := Tryz.underlying206
  a232 := Tryz.isAgg206
  z232 := Tryz.sizeOf206
  v232 := Tryz.zeroValue206
  t233 := Tryz.underlying207
  a233 := Tryz.isAgg207
  z233 := Tryz.sizeOf207
  v233 := Tryz.zeroValue207
  g15 := by kernel_rfl
  g16 := by kernel_rfl
  g17 := by kernel_rfl
  g18 := by kernel_rfl
  g19 := by kernel_rfl
  t80 := Tryz.underlying41
  a80 := Tryz.isAgg41
  z80 := Tryz.sizeOf41
  v80 := Tryz.zeroValue41
  i0 := by kernel_rfl
  i2 := by kernel_rfl
  i3 := by kernel_rfl
  i4 := by kernel_rfl
  i5 := by kernel_rfl
  i9 := by kernel_rfl
  i20 := by kernel_rfl
  i21 := by kernel_rfl
  i37 := by kernel_rfl
  i46 := by kernel_rfl
  i51 := by kernel_rfl
  i53 := by kernel_rfl
  i75 := by kernel_rfl
  i76 := by kernel_rfl
  i80 := by kernel_rfl
  i85 := by kernel_rfl
  i127 := by kernel_rfl
  i143 := by kernel_rfl
  i145 := by kernel_rfl
  i167 := by kernel_rfl
  i168 := by kernel_rfl
  i171 := by kernel_rfl
  i173 := by kernel_rfl
  i175 := by kernel_rfl
  i210 := by kernel_rfl
  i212 := by kernel_rfl
  i232 := by kernel_rfl
  i233 := by kernel_rfl
  m15 := by kernel_rfl
  m16 := by kernel_rfl
  m17 := by kernel_rfl
  m18 := by kernel_rfl
  m19 := by kernel_rfl
  c0 := by kernel_rfl
  c2 := by kernel_rfl
  c3 := by kernel_rfl
  c4 := by kernel_rfl
  c5 := by kernel_rfl
  c9 := by kernel_rfl
  c20 := by kernel_rfl
  c21 := by kernel_rfl
  c37 := by kernel_rfl
  c46 := by kernel_rfl
  c51 := by kernel_rfl
  c53 := by kernel_rfl
  c75 := by kernel_rfl
  c76 := by kernel_rfl
  c80 := by kernel_rfl
  c85 := by kernel_rfl
  c127 := by kernel_rfl
  c143 := by kernel_rfl
  c145 := by kernel_rfl
  c167 := by kernel_rfl
  c168 := by kernel_rfl
  c171 := by kernel_rfl
  c173 := by kernel_rfl
  c175 := by kernel_rfl
  c210 := by kernel_rfl
  c212 := by kernel_rfl
  c213 := by kernel_rfl
  c232 := by kernel_rfl
  c233 := by kernel_rfl }
def Tryz.laysItoa_ren : Go.Shelf.Ren := ⟨fun | 171 => 121 | 243 => 139 | 246 => 151 | 283 => 87 | 284 => 88 | 285 => 89 | 286 => 90 | 129 => 113 | 317 => 112 | 318 => 114 | 319 => 115 | 320 => 116 | 337 => 134 | 338 => 135 | n => n, fun | 3 => 3 | 9 => 9 | 2 => 2 | 4 => 4 | 171 => 153 | 0 => 0 | 53 => 124 | 37 => 50 | 5 => 5 | 173 => 156 | 212 => 173 | 51 => 158 | 20 => 20 | 213 => 174 | 46 => 127 | 232 => 206 | 233 => 207 | n => n, fun | 17 => 4 | 18 => 5 | 19 => 6 | n => n⟩
theorem Tryz.laysItoa : Go.Proofs.LaysM.n171 Tryz.prog Tryz.laysItoa_ren := {
  mixed := by kernel_rfl
  f129 := Tryz.func113.trans (congrArg some (by kernel_rfl))
  f171 := Tryz.func121.trans (congrArg some (by kernel_rfl))
  f243 := Tryz.func139.trans (congrArg some (by kernel_rfl))
  f246 := Tryz.func151.trans (congrArg some (by kernel_rfl))
  f283 := Tryz.func87.trans (congrArg some (by kernel_rfl))
  f284 := Tryz.func88.trans (congrArg some (by kernel_rfl))
  f285 := Tryz.func89.trans (congrArg some (by kernel_rfl))
  f286 := Tryz.func90.trans (congrArg some (by kernel_rfl))
  f317 := Tryz.func112.trans (congrArg some (by kernel_rfl))
  f318 := Tryz.func114.trans (congrArg some (by kernel_rfl))
  f319 := Tryz.func115.trans (congrArg some (by kernel_rfl))
  f320 := Tryz.func116.trans (congrArg some (by kernel_rfl))
  f337 := Tryz.func134.trans (congrArg some (by kernel_rfl))
  f338 := Tryz.func135.trans (congrArg some (by kernel_rfl))
  t0 := Tryz.underlying0
  a0 := Tryz.isAgg0
  z0 := Tryz.sizeOf0
  v0 := Tryz.zeroValue0
  t2 := Tryz.underlying2
  a2 := Tryz.isAgg2
  z2 := Tryz.sizeOf2
  v2 := Tryz.zeroValue2
  t3 := Tryz.underlying3
  a3 := Tryz.isAgg3
  z3 := Tryz.sizeOf3
  v3 := Tryz.zeroValue3
  t4 := Tryz.underlying4
  a4 := Tryz.isAgg4
  z4 := Tryz.sizeOf4
  v4 := Tryz.zeroValue4
  t5 := Tryz.underlying5
  a5 := Tryz.isAgg5
  z5 := Tryz.sizeOf5
  v5 := Tryz.zeroValue5
  t9 := Tryz.underlying9
  a9 := Tryz.isAgg9
  z9 := Tryz.sizeOf9
  v9 := Tryz.zeroValue9
  t20 := Tryz.underlying20
  a20 := Tryz.isAgg20
  z20 := Tryz.sizeOf20
  v20 := Tryz.zeroValue20
  t37 := Tryz.underlying50
  a37 := Tryz.isAgg50
  z37 := Tryz.sizeOf50
  v37 := Tryz.zeroValue50
  t46 := Tryz.underlying127
  a46 := Tryz.isAgg127
  z46 := Tryz.sizeOf127
  v46 := Tryz.zeroValue127
  t51 := Tryz.underlying158
  a51 := Tryz.isAgg158
  z51 := Tryz.sizeOf158
  v51 := Tryz.zeroValue158
  t53 := Tryz.underlying124
  a53 := Tryz.isAgg124
  z53 := Tryz.sizeOf124
  v53 := Tryz.zeroValue124
  t171 := Tryz.underlying153
  a171 := Tryz.isAgg153
  z171 := Tryz.sizeOf153
  v171 := Tryz.zeroValue153
  t173 := Tryz.underlying156
  a173 := Tryz.isAgg156
  z173 := Tryz.sizeOf156
  v173 := Tryz.zeroValue156
  t212 := Tryz.underlying173
  a212 := Tryz.isAgg173
  z212 := Tryz.sizeOf173
  v212 := Tryz.zeroValue173
  t213 := Tryz.underlying174
  a213 := Tryz.isAgg174
  z213 := Tryz.sizeOf174
  t232 := Tryz.underlying206
  a232 := Tryz.isAgg206
  z232 := Tryz.sizeOf206
  v232 := Tryz.zeroValue206
  t233 := Tryz.underlying207
  a233 := Tryz.isAgg207
  z233 := Tryz.sizeOf207
  v233 := Tryz.zeroValue207
  g17 := by kernel_rfl
  g18 := by kernel_rfl
  g19 := by kernel_rfl
  i0 := by kernel_rfl
  i2 := by kernel_rfl
  i3 := by kernel_rfl
  i4 := by kernel_rfl
  i5 := by kernel_rfl
  i9 := by kernel_rfl
  i20 := by kernel_rfl
  i37 := by kernel_rfl
  i46 := by kernel_rfl
  i51 := by kernel_rfl
  i53 := by kernel_rfl
  i171 := by kernel_rfl
  i173 := by kernel_rfl
  i212 := by kernel_rfl
  i232 := by kernel_rfl
  i233 := by kernel_rfl
  m17 := by kernel_rfl
  m18 := by kernel_rfl
  m19 := by kernel_rfl }
end Go.Proofs.YthfjmcomhccbaaaGreatDoor

namespace Tmx
open Go.Deep

/-- A list of terms. The first two numbers of a node are idle (always 0 where one is made here). -/
abbrev F := BT (Int × Int)
/-- A first term of kind k and number n with the arguments l, and those behind it. -/
def nd (k n : Int) (l r : F) : F := .node 0 0 (k, n) l r

def len : F → Nat
  | .nil => 0
  | .node _ _ _ _ r => len r + 1
def size : F → Nat
  | .nil => 0
  | .node _ _ _ l r => size l + size r + 1
def drop : Nat → F → F
  | 0, f => f
  | _ + 1, .nil => .nil
  | i + 1, .node _ _ _ _ r => drop i r

theorem len_drop : ∀ (i : Nat) (f : F), len (drop i f) = len f - i
  | 0, f => by simp [drop]
  | i + 1, .nil => by simp [drop, len]
  | i + 1, .node _ _ _ _ r => by rw [drop, len_drop i r, len]; omega

theorem size_drop : ∀ (i : Nat) (f : F), size (drop i f) ≤ size f
  | 0, f => by simp [drop]
  | i + 1, .nil => by simp [drop]
  | i + 1, .node _ _ _ l r => by rw [drop, size]; have := size_drop i r; omega

theorem drop_succ : ∀ (i : Nat) (f : F) (b o : Nat) (a : Int × Int) (l r : F), drop i f = .node b o a l r → drop (i + 1) f = r
  | 0, f, b, o, a, l, r, h => by rw [drop] at h; subst h; simp [drop]
  | i + 1, .nil, b, o, a, l, r, h => by simp [drop] at h
  | i + 1, .node _ _ _ _ r', b, o, a, l, r, h => by rw [drop] at h; rw [drop]; exact drop_succ i r' b o a l r h

theorem drop_node : ∀ (i : Nat) (f : F), i < len f → ∃ b o a l r, drop i f = .node b o a l r
  | 0, .nil, h => by simp [len] at h
  | 0, .node b o a l r, _ => ⟨b, o, a, l, r, rfl⟩
  | i + 1, .nil, h => by simp [len] at h
  | i + 1, .node _ _ _ _ r', h => by rw [len] at h; rw [drop]; exact drop_node i r' (by omega)

theorem len_le_size : ∀ (f : F), len f ≤ size f
  | .nil => Nat.le_refl _
  | .node _ _ _ l r => by rw [len, size]; have := len_le_size r; omega

theorem drop_len : ∀ (f : F), drop (len f) f = .nil
  | .nil => rfl
  | .node _ _ _ _ r => by rw [len, drop]; exact drop_len r
theorem size_nil_of_len : ∀ (f : F), len f = 0 → f = .nil
  | .nil, _ => rfl
  | .node _ _ _ _ r, h => by simp [len] at h

/-- How many the argument number i of a term of kind k has bound. -/
def bindsAt (k i : Int) : Int :=
  if k = 3 ∨ k = 4 ∨ k = 6 ∨ k = 7 then (if i = 1 then 1 else 0)
  else if k = 17 then (if i = 0 then 1 else if i = 2 then 2 else 0) else 0

/-- The same terms. -/
def same : F → F → Bool
  | .nil, .nil => true
  | .node _ _ a l r, .node _ _ a' l' r' => a.1 == a'.1 && a.2 == a'.2 && same l l' && same r r'
  | _, _ => false

theorem same_len : ∀ (f g : F), same f g = true → len f = len g
  | .nil, .nil, _ => rfl
  | .node _ _ a l r, .node _ _ a' l' r', h => by
    simp only [same, Bool.and_eq_true] at h
    rw [len, len, same_len r r' h.2]
  | .nil, .node _ _ _ _ _, h => by simp [same] at h
  | .node _ _ _ _ _, .nil, h => by simp [same] at h

/-- What follows from there on: the terms number j agree and so on. -/
def sameFrom (j : Nat) (f g : F) : Bool := same (drop j f) (drop j g)
theorem same_step (j : Nat) (f g : F) {x y x' y' : Nat} {a a' : Int × Int} {l r l' r' : F} (h : drop j f = .node x y a l r) (h' : drop j g = .node x' y' a' l' r') :
    sameFrom j f g = ((a.1 == a'.1 && a.2 == a'.2 && same l l') && sameFrom (j + 1) f g) := by
  unfold sameFrom
  rw [drop_succ j f _ _ _ _ _ h, drop_succ j g _ _ _ _ _ h', h, h', same]

/-- The same term. -/
def sameT (k n : Int) (f : F) (k' n' : Int) (g : F) : Bool := k == k' && n == n' && same f g
end Tmx
namespace Tmx
/-- The shape of a kind, as bytes: how many each argument has bound. -/
def shapeTab : List (List UInt8) := [[], [], [], [48, 49], [48, 49], [48, 48], [48, 49], [48, 49, 48, 48], [48], [48], [], [], [], [48, 48], [], [], [48], [49, 48, 50, 48], []]
def shpL (k : Int) : List UInt8 := if 1 ≤ k ∧ k ≤ 18 then shapeTab.getD k.toNat [] else [45]
def shp (k : Int) : ByteArray := ⟨(shpL k).toArray⟩
end Tmx

namespace Tmx
open Go Go.Deep Go.RowKit

/-- The terms f lie in w from the cell o of the block b on. -/
def Row (w : World) (b o : Nat) : F → Prop
  | .nil => True
  | .node _ _ a l r =>
    w.cell? ⟨b, o, none⟩ = some (.int .i64 a.1) ∧ w.cell? ⟨b, o + 1, none⟩ = some (.int .i64 a.2) ∧
    (∃ p b' o' cap, w.cell? ⟨b, o + 2, none⟩ = some (.slice p (len l) cap) ∧ (0 < len l → p = some ⟨b', o', none⟩) ∧ Row w b' o' l) ∧
    Row w b (o + 3) r

/-- The slice that begins at p holds the terms f in w. -/
def Sl (w : World) (p : Option Addr) (f : F) : Prop := ∃ b o, (0 < len f → p = some ⟨b, o, none⟩) ∧ Row w b o f

theorem Sl.nil (w : World) (p : Option Addr) : Sl w p .nil := ⟨0, 0, fun h => by simp [len] at h, trivial⟩

theorem Row.below {w w' : World} (h : Below w.heap.size w w') : ∀ (f : F) (b o : Nat), Row w b o f → Row w' b o f
  | .nil, _, _, _ => trivial
  | .node _ _ a l r, b, o, hr => by
    obtain ⟨h1, h2, ⟨p, b', o', cap, h3, h4, h6⟩, h5⟩ := hr
    have hb : b < w.heap.size := World.block_lt_of_cell? w ⟨b, o, none⟩ h1
    exact ⟨by rw [h.cell (p := ⟨b, o, none⟩) hb]; exact h1, by rw [h.cell (p := ⟨b, o + 1, none⟩) hb]; exact h2, ⟨p, b', o', cap, by rw [h.cell (p := ⟨b, o + 2, none⟩) hb]; exact h3, h4, Row.below h l b' o' h6⟩, Row.below h r b (o + 3) h5⟩

theorem Sl.below {w w' : World} (h : Below w.heap.size w w') {p : Option Addr} {f : F} (hs : Sl w p f) : Sl w' p f := by
  obtain ⟨b, o, h1, h2⟩ := hs
  exact ⟨b, o, h1, h2.below h⟩

theorem Sl.drew {w : World} {p : Option Addr} {f : F} (hs : Sl w p f) : Sl w.drew p f := hs.below (Below.refl _ _).drew

/-- The term number i of a row. -/
theorem Row.at {w : World} : ∀ (i : Nat) (f : F) (b o : Nat), Row w b o f → i < len f → ∃ x y a l r p cap, drop i f = .node x y a l r ∧
    w.cell? ⟨b, o + i * 3, none⟩ = some (.int .i64 a.1) ∧ w.cell? ⟨b, o + i * 3 + 1, none⟩ = some (.int .i64 a.2) ∧ w.cell? ⟨b, o + i * 3 + 2, none⟩ = some (.slice p (len l) cap) ∧ Sl w p l
  | _, .nil, _, _, _, h => by simp [len] at h
  | 0, .node x y a l r, b, o, hr, _ => by
    obtain ⟨h1, h2, ⟨p, b', o', cap, h3, h4, h6⟩, _⟩ := hr
    exact ⟨x, y, a, l, r, p, cap, rfl, by simpa using h1, by simpa using h2, by simpa using h3, b', o', h4, h6⟩
  | i + 1, .node _ _ _ _ r', b, o, hr, h => by
    obtain ⟨_, _, _, h5⟩ := hr
    rw [len] at h
    obtain ⟨x, y, a, l, r, p, cap, e, c1, c2, c3, hs⟩ := Row.at i r' b (o + 3) h5 (by omega)
    have e3 : o + (i + 1) * 3 = o + 3 + i * 3 := by omega
    exact ⟨x, y, a, l, r, p, cap, by rw [drop]; exact e, by rw [e3]; exact c1, by rw [e3]; exact c2, by rw [e3]; exact c3, hs⟩
theorem Row.lt {w : World} {b o : Nat} {f : F} (h : Row w b o f) (hl : 0 < len f) : b < w.heap.size := by
  cases f with
  | nil => simp [len] at hl
  | node _ _ a l r => exact World.block_lt_of_cell? w ⟨b, o, none⟩ h.1

/-- What lay in w reads as it did in w1, where only new blocks have come. -/
theorem bcell {W w1 : World} (hb : Below W.heap.size W w1) : (∀ b o, b < W.heap.size → w1.cell? ⟨b, o, none⟩ = W.cell? ⟨b, o, none⟩) ∧ (∀ b o, b < W.heap.size → w1.frozen? ⟨b, o, none⟩ = W.frozen? ⟨b, o, none⟩) :=
  ⟨fun b o h => hb.cell (p := ⟨b, o, none⟩) h, fun b o h => hb.frozen (p := ⟨b, o, none⟩) h⟩

/-- The term number i of a slice, in a later world. -/
theorem Sl.at {W w : World} {q : Option Addr} {f : F} (hs : Sl W q f) (hb : Below W.heap.size W w) {i : Nat} (hi : i < len f) : ∃ b o k n p cap x y l r, q = some ⟨b, o, none⟩ ∧ drop i f = .node x y (k, n) l r ∧ b < W.heap.size ∧
    w.cell? ⟨b, o + i * 3, none⟩ = some (.int .i64 k) ∧ w.cell? ⟨b, o + i * 3 + 1, none⟩ = some (.int .i64 n) ∧ w.cell? ⟨b, o + i * 3 + 2, none⟩ = some (.slice p (len l) cap) ∧ Sl w p l := by
  obtain ⟨b, o, h1, h2⟩ := hs
  obtain ⟨x, y, a, l, r, p, cap, e, c1, c2, c3, hs⟩ := Row.at i f b o (h2) hi
  have hl := h2.lt (by omega)
  exact ⟨b, o, a.1, a.2, p, cap, x, y, l, r, h1 (by omega), e, hl, by rw [(bcell hb).1 _ _ hl]; exact c1, by rw [(bcell hb).1 _ _ hl]; exact c2, by rw [(bcell hb).1 _ _ hl]; exact c3, hs.below hb⟩

/-- Behind a call that was made where three new cells had been laid last. -/
theorem box3 {w w1 : World} {a b c : Value} {t : TypeId} (hb : Below (w.alloc (.cells #[a, b, c] t)).heap.size (w.alloc (.cells #[a, b, c] t)) w1) :
    w1.cell? ⟨w.heap.size, 0, none⟩ = some a ∧ w1.cell? ⟨w.heap.size, 1, none⟩ = some b ∧ w1.cell? ⟨w.heap.size, 2, none⟩ = some c ∧ Below w.heap.size w w1 ∧ w.heap.size < w1.heap.size := by
  have hz := hb.size
  have e : (w.alloc (.cells #[a, b, c] t)).heap.size = w.heap.size + 1 := by simp
  rw [e] at hz
  refine ⟨?_, ?_, ?_, ((Below.refl _ _).alloc (Nat.le_refl _) _).trans (hb.mono (by rw [e]; omega)), by omega⟩ <;>
  (rw [hb.cell (by rw [e]; exact Nat.lt_succ_self _)]; simp [go_sem])

theorem undrew {w w1 : World} (h : Below w.drew.heap.size w.drew w1) : Below w.heap.size w w1 := ⟨h.os, h.tape, h.output, h.size, h.block⟩
end Tmx
