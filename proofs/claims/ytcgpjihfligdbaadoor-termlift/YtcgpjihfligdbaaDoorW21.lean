/-
  Binds of the kind that has most; and the first fact of the statements: the program is there.
-/
import Derived.Test.YtcgpjihfligdbaaDoorW20
import Derived.Test.YtcgpjihfligdbaaDoorW19
import Derived.Test.YtcgpjihfligdbaaDoorW9
import Derived.Test.YtcgpjihfligdbaaDoorW10
import Derived.Test.YtcgpjihfligdbaaDoorW3
namespace Go.Proofs.YtcgpjihfligdbaaDoor
open Go.RowKit Tmx
set_option maxRecDepth 60000

theorem make4 (w : World) : (Instr.makeSlice 61 (.int .i64 4) (.int .i64 4)).run Tryd.prog w = .ok (.slice (some ⟨w.heap.size, 0, none⟩) 4 4) (w.alloc (.cells #[.int .i64 0, .int .i64 0, .int .i64 0, .int .i64 0] 3)) := by kernel_rfl

set_option maxHeartbeats 1000000 in
theorem binds17 (w : World) :
    Calls Tryd.prog 35 #[.int .i64 17] w fun e w' => (∃ g, e = .returned (.tuple #[.slice (some ⟨g, 0, none⟩) 4 4, .bool true]) ∧ w'.cell? ⟨g, 2, none⟩ = some (.int .i64 2)) ∧ Below w.heap.size w w' := by
  have hmk := make4
  go_enter Tryd.func35, Tryd.ntmps35
  go_wp2_with fail
  refine (arity_yes 17 _ (by omega)).mono ?_
  rintro e w1 ⟨rfl, rfl⟩
  rw [show ((shpL 17).length : Int) = 4 from rfl]
  go_wp2_with fail
  have hrow := World.rowIs_alloc w1 #[.int .i64 0, .int .i64 0, .int .i64 0, .int .i64 0] 3 (fun i => #[Value.int .i64 0, .int .i64 0, .int .i64 0, .int .i64 0][i]?.getD .nilFunc) (fun i hi => by rw [Array.getElem?_eq_getElem hi]; rfl)
  have hb0 : Below w1.heap.size w1 (w1.alloc (.cells #[.int .i64 0, .int .i64 0, .int .i64 0, .int .i64 0] 3)) := (Below.refl _ _).alloc (Nat.le_refl _) _
  clear hmk
  go_loopw [7, 19] (fun _ i wr => ∃ j : Nat, j ≤ 4 ∧ i = .int .i64 j ∧ Below w1.heap.size w1 wr ∧ ∃ G, wr.rowIs w1.heap.size 3 4 G ∧ ∀ i, i < j → G i = .int .i64 (Tmx.bindsAt 17 i)) (fun _ i _ => 4 - (intOf i).toNat)
  case atStart => exact ⟨0, by omega, rfl, hb0, _, hrow, fun i hi => by omega⟩
  case round =>
    clear hrow hb0
    obtain ⟨j, hj, rfl, hb, G, hG, hGi⟩ := hrel
    have HG : Hid (∀ i, i < j → G i = .int .i64 (Tmx.bindsAt 17 i)) := hGi
    clear hGi
    by_cases hlt : j < 4
    · have c1 := hG.cell hlt
      have f1 := hG.frozen j
      go_wp2_with (first | (go_at_call 73; refine (bindsAt_any 17 j _).mono ?_; rintro e w' ⟨rfl, rfl⟩))
      go_roundw
      case rel =>
        refine ⟨j + 1, hlt, by go_num, hb.setCell (Nat.le_refl _) _, _, hG.set j (.int .i64 (Tmx.bindsAt 17 j)), fun i hi => ?_⟩
        show (if i = j then _ else G i) = _
        by_cases e : i = j
        · rw [if_pos e, e]
        · rw [if_neg e]; exact HG.out i (by omega)
      case measure => simp [intOf]; omega
    · obtain rfl : j = 4 := by omega
      go_wp2
      go_ret2
      refine ⟨⟨w1.heap.size, rfl, ?_⟩, hb⟩
      rw [hG.cell (by omega), HG.out 2 (by omega)]
      rfl
end Go.Proofs.YtcgpjihfligdbaaDoor
