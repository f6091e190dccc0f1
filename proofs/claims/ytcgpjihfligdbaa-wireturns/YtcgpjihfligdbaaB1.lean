/-
  What the small functions of package wire answer; Term: bytes behind bytes.
-/
import Derived.Test.YtcgpjihfligdbaaW1
import Derived.Test.YtcgpjihfligdbaaApB
namespace Go.Proofs.Ytcgpjihfligdbaa
open Go.RowKit Tmx

set_option maxHeartbeats 400000 in
theorem hasN_any (k : Int) (w : World) :
    Calls Try.prog 49 #[.int .i64 k] w fun e w' => e = .returned (.bool (numb k)) ∧ w' = w := by
  unfold numb
  cases h1 : (k == 1)
  · cases h2 : (k == 2)
    · go_enter Try.func49, Try.ntmps49
      go_wp2
      go_ret
      exact ⟨by simp, rfl⟩
    · go_enter Try.func49, Try.ntmps49
      go_wp2
      go_ret
      exact ⟨by simp, rfl⟩
  · go_enter Try.func49, Try.ntmps49
    go_wp2
    go_ret
    exact ⟨by simp, rfl⟩
theorem wrap8 (x : Int) : IntKind.u8.wrap x = ((b8 x).toNat : Int) := by
  rw [b8_toNat, IntKind.wrap_u8]
end Go.Proofs.Ytcgpjihfligdbaa
