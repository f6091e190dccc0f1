/-
  The document's Wrong: what is wrong with a term.
-/
import Derived.Test.YtcgpjihfligdbaaW5
import Derived.Test.YtcgpjihfligdbaaW2
import Derived.Test.YtcgpjihfligdbaaPlain3
namespace Go.Proofs.Ytcgpjihfligdbaa
open Go.RowKit Tmx

set_option maxHeartbeats 1000000 in
theorem rwrong_any (f : F) (k n : Int) (q : Option Addr) (cap : Nat) (bound decls : Int) (w : World) (h0 : 0 ≤ bound) (h1 : bound ≤ 4611686018427387000) (hs : Sl w q f) :
    Calls Try.prog 12 #[.agg #[.int .i64 k, .int .i64 n, .slice q (len f) cap], .int .i64 bound, .int .i64 decls] w fun e w' => e = .returned (.int .i64 (wrongT decls bound k n f)) ∧ Below w.heap.size w w' := by
  go_enter Try.func12, Try.ntmps12
  go_wp2_with fail
  refine (look_any (size f + 1) f k n q cap bound decls 1 _ (by omega) h0 (by omega) (by omega) (by omega) (hs.below ((Below.refl _ _).alloc (Nat.le_refl _) _))).mono ?_
  rintro e w1 ⟨rfl, hb1⟩
  obtain ⟨c0, c1, c2, hb, hz⟩ := box3 hb1
  clear hb1
  cases tt : (lookT decls bound 1 k n f != 0)
  · have e0 : lookT decls bound 1 k n f = 0 := by simpa using tt
    have hsm := look_small e0
    have w0 : wrongT decls bound k n f = if 60 < size f + 1 then 4 else 0 := by unfold wrongT; rw [e0]; simp
    rw [e0]
    clear e0 tt
    by_cases hm : 60 < size f + 1
    · have W0 : Hid (wrongT decls bound k n f = 4) := by rw [w0, if_pos hm]; rfl
      clear w0
      go_wp2_with fail
      refine (rsize_any (size f + 1) f k n q cap _ (by omega) hsm (hs.below hb)).mono ?_
      rintro e w2 ⟨rfl, hb2⟩
      go_wp2_with fail
      go_ret
      exact ⟨by rw [W0.out]; rfl, hb.trans (hb2.mono (by omega))⟩
    · have W0 : Hid (wrongT decls bound k n f = 0) := by rw [w0, if_neg hm]; rfl
      clear w0
      go_wp2_with fail
      refine (rsize_any (size f + 1) f k n q cap _ (by omega) hsm (hs.below hb)).mono ?_
      rintro e w2 ⟨rfl, hb2⟩
      go_wp2_with fail
      go_ret
      exact ⟨by rw [W0.out]; rfl, hb.trans (hb2.mono (by omega))⟩
  · have w0 : wrongT decls bound k n f = lookT decls bound 1 k n f := by unfold wrongT; rw [if_pos (by simpa using tt)]
    have W0 : Hid (wrongT decls bound k n f = lookT decls bound 1 k n f) := w0
    clear w0
    go_wp2_with fail
    go_ret
    exact ⟨by rw [W0.out]; rfl, hb⟩
end Go.Proofs.Ytcgpjihfligdbaa
