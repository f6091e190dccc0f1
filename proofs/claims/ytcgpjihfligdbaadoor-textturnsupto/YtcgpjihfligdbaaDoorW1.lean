/-
  What the small functions answer: a variable's term, how many are bound, the shape of a kind.
-/
import Derived.Test.YtcgpjihfligdbaaDoorProg
import Derived.Test.YtcgpjihfligdbaaDoorMem
import Derived.WalkKit
import Derived.WalkSpells
import Derived.WalkLawsBesides
namespace Go.Proofs.YtcgpjihfligdbaaDoor
open Go.RowKit

theorem wrapI (x : Int) (h : -4611686018427387904 ≤ x) (h' : x ≤ 4611686018427387905) : IntKind.i64.wrap x = x := by
  rw [IntKind.wrap_i64]; omega
theorem wrapB (x : Int) (h : 0 ≤ x) (h' : x ≤ 255) : IntKind.u8.wrap x = x := by
  rw [IntKind.wrap_u8]; omega

set_option maxHeartbeats 400000 in
theorem variable_any (n : Int) (w : World) :
    Calls Tryd.prog 43 #[.int .i64 n] w fun e w' => e = .returned (.agg #[.int .i64 1, .int .i64 n, .slice none 0 0]) ∧ Below w.heap.size w w' := by
  go_enter Tryd.func43, Tryd.ntmps43
  go_wp2
  exact bodyPost_ret (v := .agg #[.int .i64 1, .int .i64 n, .slice none 0 0]) (by simp [results, Tryd.results43, go_sem]) rfl ⟨rfl, (Below.refl _ _).alloc (Nat.le_refl _) _⟩

set_option maxHeartbeats 400000 in
theorem bindsAt_any (k n : Int) (w : World) :
    Calls Tryd.prog 73 #[.int .i64 k, .int .i64 n] w fun e w' => e = .returned (.int .i64 (Tmx.bindsAt k n)) ∧ w' = w := by
  go_enter Tryd.func73, Tryd.ntmps73
  go_wp2
  all_goals go_ret
  all_goals (refine ⟨congrArg (fun x => Ending.returned (.int .i64 x)) ?_, rfl⟩; simp_all [Tmx.bindsAt])

end Go.Proofs.YtcgpjihfligdbaaDoor
