/-
  Shape: how many each argument of a kind has bound.
-/
import Derived.Test.YtcgpjihfligdbaaDoorW1
namespace Go.Proofs.YtcgpjihfligdbaaDoor
open Go.RowKit Tmx

set_option maxHeartbeats 1000000 in
theorem shape_any (k : Int) (w : World) :
    Calls Tryd.prog 47 #[.int .i64 k] w fun e w' => e = .returned (.string (shp k)) ∧ Below w.heap.size w w' := by
  by_cases h1 : k < 1
  · have e : shp k = ⟨#[45]⟩ := by unfold shp shpL; rw [if_neg (by omega)]
    rw [e]
    clear e
    go_enter Tryd.func47, Tryd.ntmps47
    go_wp2
    go_ret
    exact ⟨rfl, Below.refl _ _⟩
  · by_cases h2 : 18 < k
    · have e : shp k = ⟨#[45]⟩ := by unfold shp shpL; rw [if_neg (by omega)]
      rw [e]
      clear e
      go_enter Tryd.func47, Tryd.ntmps47
      go_wp2
      go_ret
      exact ⟨rfl, Below.refl _ _⟩
    · have : k = 1 ∨ k = 2 ∨ k = 3 ∨ k = 4 ∨ k = 5 ∨ k = 6 ∨ k = 7 ∨ k = 8 ∨ k = 9 ∨ k = 10 ∨ k = 11 ∨ k = 12 ∨ k = 13 ∨ k = 14 ∨ k = 15 ∨ k = 16 ∨ k = 17 ∨ k = 18 := by omega
      rcases this with rfl | rfl | rfl | rfl | rfl | rfl | rfl | rfl | rfl | rfl | rfl | rfl | rfl | rfl | rfl | rfl | rfl | rfl
      all_goals
        clear h1 h2
        go_enter Tryd.func47, Tryd.ntmps47
        go_wp2
        go_ret
        exact ⟨rfl, (Below.refl _ _).alloc (Nat.le_refl _) _⟩
end Go.Proofs.YtcgpjihfligdbaaDoor
