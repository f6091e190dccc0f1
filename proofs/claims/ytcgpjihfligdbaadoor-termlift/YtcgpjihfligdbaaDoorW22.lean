/-
  The first fact of the statements: the program is there.
-/
import Derived.Test.YtcgpjihfligdbaaDoorW21
namespace Go.Proofs.YtcgpjihfligdbaaDoor
open Go.RowKit Tmx
set_option maxRecDepth 60000

/-- Names that were written out. -/
theorem strs_lit (w : World) (B : Nat) (ns : List (List UInt8)) (hB : w.heap[B]? = some (.cells (ns.map fun l => Value.string ⟨l.toArray⟩).toArray 9 (0, 0))) (r : Nat) (hr : w.heap.size ≤ r) : Strs r w (some ⟨B, 0, none⟩) ns := by
  have hlt : B < w.heap.size := by
    obtain ⟨h, _⟩ := Array.getElem?_eq_some_iff.1 hB
    exact h
  refine ⟨B, 0, fun _ => ⟨rfl, by omega⟩, fun i hi => ?_⟩
  rw [Nat.zero_add, cell_of_row w B i _ 9 (0, 0) hB]
  simp [List.getD_eq_getElem?_getD, List.getElem?_eq_getElem hi]

def x1 : Int × Int × F := (4, 0, .node 0 0 (14, 0) .nil (.node 0 0 (5, 0) (.node 0 0 (1, 2) .nil (.node 0 0 (1, 0) .nil .nil)) .nil))
def x2 : Int × Int × F := (4, 0, .node 0 0 (14, 0) .nil (.node 0 0 (5, 0) (.node 0 0 (1, 3) .nil (.node 0 0 (1, 0) .nil .nil)) .nil))
def x3 : Int × Int × F := (5, 0, .node 0 0 (1, 1) .nil (.node 0 0 (1, 0) .nil .nil))
def x4 : Int × Int × F := (1, 0, .nil)
def x5 : Int × Int × F := (5, 0, .node 0 0 (1, 0) .nil (.node 0 0 (1, 0) .nil .nil))
def s1 : List UInt8 := [40, 102, 110, 32, 110, 97, 116, 32, 110, 32, 40, 97, 32, 110, 41, 41]
theorem p1 : termS [] 24 [[97], [98]] s1 0 = (x1, [], 0) := by kernel_rfl
theorem p2 : termS [] 24 [[97], [98], [99]] s1 0 = (x2, [], 0) := by kernel_rfl
theorem p3 : termS [] 24 [[98], [97]] [40, 98, 32, 97, 41] 0 = (x3, [], 0) := by kernel_rfl
theorem p4 : termS [] 24 [[98]] [98] 0 = (x4, [], 0) := by kernel_rfl
theorem p5 : termS [] 24 [[98]] [40, 98, 32, 98, 41] 0 = (x5, [], 0) := by kernel_rfl
theorem pl1 : plainT s1 := ⟨by decide, by decide⟩
theorem q1 : wrongT 0 2 x1.1 x1.2.1 x1.2.2 = 0 := by decide
theorem q2 : wrongT 0 0 x1.1 x1.2.1 x1.2.2 = 3 := by decide
theorem q3 : sameT (mapT (liftG 1 0) x1.1 x1.2.1 x1.2.2 0).1 (mapT (liftG 1 0) x1.1 x1.2.1 x1.2.2 0).2.1 (mapT (liftG 1 0) x1.1 x1.2.1 x1.2.2 0).2.2 x2.1 x2.2.1 x2.2.2 = true := by decide
theorem q4 : sameT (mapT (putG x4.1 x4.2.1 x4.2.2) x3.1 x3.2.1 x3.2.2 0).1 (mapT (putG x4.1 x4.2.1 x4.2.2) x3.1 x3.2.1 x3.2.2 0).2.1 (mapT (putG x4.1 x4.2.1 x4.2.2) x3.1 x3.2.1 x3.2.2 0).2.2 x5.1 x5.2.1 x5.2.2 = true := by decide
theorem q5 : anyT (usesG 1) x1.1 x1.2.1 x1.2.2 0 = true := by decide
theorem q6 : anyT (usesG 0) x1.1 x1.2.1 x1.2.2 0 = false := by decide
end Go.Proofs.YtcgpjihfligdbaaDoor
