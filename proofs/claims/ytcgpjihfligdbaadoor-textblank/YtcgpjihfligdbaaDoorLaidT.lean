/-
  A world in which the listed package-level variables hold what the program's text lays: the witness of the cards on texts.
-/
import Derived.Test.YtcgpjihfligdbaaDoorCards
import Derived.Test.YtcgpjihfligdbaaDoorTie
import Derived.WalkKit
import Derived.ProofKit
import Derived.Lib.LaidIn
import Derived.Deep.DeepWitnessRowRef
namespace Go.Proofs.YtcgpjihfligdbaaDoor
open Go.RowKit

theorem own : ownKnob Tryd.prog.godebug = none := by kernel_rfl
theorem laysOut : laidOutB Tryd.prog = true := by kernel_rfl
/-- A variable's block with other cells. -/
def put (cs : Array Value) : Obj → Obj
  | .cells _ t frozen => .cells cs t frozen
  | o => o
/-- The settled world with two blocks more (the two errors' texts), the six variables holding what is laid. -/
def LaidWorld (os : Os) (w0 : World) : Prop :=
  w0 = { World.holding Tryd.prog os ⟨#[.cells #[.string ⟨#[105, 110, 118, 97, 108, 105, 100, 32, 115, 121, 110, 116, 97, 120]⟩] 169, .cells #[.string ⟨#[118, 97, 108, 117, 101, 32, 111, 117, 116, 32, 111, 102, 32, 114, 97, 110, 103, 101]⟩] 169], #[], []⟩ with
    heap := (((((((World.holding Tryd.prog os ⟨#[.cells #[.string ⟨#[105, 110, 118, 97, 108, 105, 100, 32, 115, 121, 110, 116, 97, 120]⟩] 169, .cells #[.string ⟨#[118, 97, 108, 117, 101, 32, 111, 117, 116, 32, 111, 102, 32, 114, 97, 110, 103, 101]⟩] 169], #[], []⟩).heap.modify 2
      (put #[.iface 167 (.pointer (some ⟨(World.settled Tryd.prog os).heap.size, 0, none⟩))])).modify 3
      (put #[.iface 167 (.pointer (some ⟨(World.settled Tryd.prog os).heap.size + 1, 0, none⟩))])).modify 1
      (put #[.int .u64 1, .int .u64 10, .int .u64 100, .int .u64 1000, .int .u64 10000, .int .u64 100000, .int .u64 1000000, .int .u64 10000000, .int .u64 100000000, .int .u64 1000000000, .int .u64 10000000000, .int .u64 100000000000, .int .u64 1000000000000, .int .u64 10000000000000, .int .u64 100000000000000, .int .u64 1000000000000000, .int .u64 10000000000000000, .int .u64 100000000000000000, .int .u64 1000000000000000000, .int .u64 10000000000000000000])).modify 4
      (put #[.int .u8 0, .int .u8 1, .int .u8 28, .int .u8 2, .int .u8 29, .int .u8 14, .int .u8 24, .int .u8 3, .int .u8 30, .int .u8 22, .int .u8 20, .int .u8 15, .int .u8 25, .int .u8 17, .int .u8 4, .int .u8 8, .int .u8 31, .int .u8 27, .int .u8 13, .int .u8 23, .int .u8 21, .int .u8 19, .int .u8 16, .int .u8 7, .int .u8 26, .int .u8 12, .int .u8 18, .int .u8 6, .int .u8 11, .int .u8 5, .int .u8 10, .int .u8 9])).modify 5
      (put #[.int .u8 0, .int .u8 1, .int .u8 56, .int .u8 2, .int .u8 57, .int .u8 49, .int .u8 28, .int .u8 3, .int .u8 61, .int .u8 58, .int .u8 42, .int .u8 50, .int .u8 38, .int .u8 29, .int .u8 17, .int .u8 4, .int .u8 62, .int .u8 47, .int .u8 59, .int .u8 36, .int .u8 45, .int .u8 43, .int .u8 51, .int .u8 22, .int .u8 53, .int .u8 39, .int .u8 33, .int .u8 30, .int .u8 24, .int .u8 18, .int .u8 12, .int .u8 5, .int .u8 63, .int .u8 55, .int .u8 48, .int .u8 27, .int .u8 60, .int .u8 41, .int .u8 37, .int .u8 16, .int .u8 46, .int .u8 35, .int .u8 44, .int .u8 21, .int .u8 52, .int .u8 32, .int .u8 23, .int .u8 11, .int .u8 54, .int .u8 26, .int .u8 40, .int .u8 15, .int .u8 34, .int .u8 20, .int .u8 31, .int .u8 10, .int .u8 25, .int .u8 14, .int .u8 19, .int .u8 9, .int .u8 13, .int .u8 8, .int .u8 7, .int .u8 6])).modify 0
      (put #[.string ⟨#[]⟩, .string ⟨#[]⟩, .string ⟨#[]⟩, .string ⟨#[112, 105]⟩, .string ⟨#[102, 110]⟩, .string ⟨#[]⟩, .string ⟨#[115, 105, 103]⟩, .string ⟨#[112, 97, 105, 114]⟩, .string ⟨#[102, 115, 116]⟩, .string ⟨#[115, 110, 100]⟩, .string ⟨#[117, 110, 105, 116]⟩, .string ⟨#[115, 116, 97, 114]⟩, .string ⟨#[101, 109, 112, 116, 121]⟩, .string ⟨#[97, 98, 115, 117, 114, 100]⟩, .string ⟨#[110, 97, 116]⟩, .string ⟨#[122, 101, 114, 111]⟩, .string ⟨#[115, 117, 99]⟩, .string ⟨#[114, 101, 99]⟩])) }
theorem laid_world (os : Os) : ∃ w0, LaidWorld os w0 := ⟨_, rfl⟩
theorem LaidWorld.os {os : Os} {w0 : World} (h : LaidWorld os w0) : w0.os = os := by
  unfold LaidWorld at h
  subst h
  rfl
set_option maxRecDepth 100000 in
theorem LaidWorld.met {os : Os} {w0 : World} (h : LaidWorld os w0) (args : Array Value) : laidMet Tryd.prog Rows.textBlankRow.laid (w0.forCall (fun _ _ => 0) ⟨#[], args, []⟩).memory := by
  unfold LaidWorld at h
  subst h
  exact (LaidIn.of_run [0, 1, 2, 3, 4, 5, (World.settled Tryd.prog default).heap.size, (World.settled Tryd.prog default).heap.size + 1] 8 (by kernel_rfl) (by kernel_rfl) (by kernel_rfl) (by kernel_rfl)).met
theorem LaidWorld.vars {os : Os} {w0 : World} (h : LaidWorld os w0) (args : Array Value) : (w0.forCall (fun _ _ => 0) ⟨#[], args, []⟩).variablesRefB Tryd.prog = true := by
  unfold LaidWorld at h
  subst h
  kernel_rfl
theorem LaidWorld.rest {os : Os} {w0 : World} (h : LaidWorld os w0) (args : Array Value) : ((w0.forCall (fun _ _ => 0) ⟨#[], args, []⟩).heap.toList.drop Tryd.prog.globals.size).take ((begin Tryd.prog (fun _ _ => 0) default).world.heap.size - Tryd.prog.globals.size) =
      (begin Tryd.prog (fun _ _ => 0) default).world.heap.toList.drop Tryd.prog.globals.size := by
  unfold LaidWorld at h
  subst h
  kernel_rfl
end Go.Proofs.YtcgpjihfligdbaaDoor
