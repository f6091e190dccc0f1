/-
  SameDecl: two declarations are the same.
-/
import Derived.Test.YtcgpjihfligdbaaW3
import Derived.Test.YtcgpjihfligdbaaB7
namespace Go.Proofs.Ytcgpjihfligdbaa
open Go.RowKit Tmx

set_option maxHeartbeats 1000000 in
theorem sameDecl_any (nm : List UInt8) (x y x2 y2 : Int × Int × F) (q q' p p' : Option Addr) (c c' d d' : Nat) (w : World) (hq : Sl w q x.2.2) (hq' : Sl w q' y.2.2) (hp : Sl w p x2.2.2) (hp' : Sl w p' y2.2.2)
    (h1 : sameT x.1 x.2.1 x.2.2 x2.1 x2.2.1 x2.2.2 = true) (h2 : sameT y.1 y.2.1 y.2.2 y2.1 y2.2.1 y2.2.2 = true) (hz1 : size x.2.2 ≤ 1000) (hz2 : size y.2.2 ≤ 1000) (hz3 : size x2.2.2 ≤ 1000) (hz4 : size y2.2.2 ≤ 1000) :
    Calls Try.prog 26 #[.agg #[.string ⟨nm.toArray⟩, .int .i64 x.1, .int .i64 x.2.1, .slice q (len x.2.2) c, .int .i64 y.1, .int .i64 y.2.1, .slice q' (len y.2.2) c'], .agg #[.string ⟨nm.toArray⟩, .int .i64 x2.1, .int .i64 x2.2.1, .slice p (len x2.2.2) d, .int .i64 y2.1, .int .i64 y2.2.1, .slice p' (len y2.2.2) d']] w
      fun e w' => e = .returned (.bool true) ∧ Below w.heap.size w w' := by
  obtain ⟨xk, xn, xf⟩ := x
  obtain ⟨yk, yn, yf⟩ := y
  obtain ⟨x2k, x2n, x2f⟩ := x2
  obtain ⟨y2k, y2n, y2f⟩ := y2
  simp only at *
  have H1 : Hid (sameT xk xn xf x2k x2n x2f = true ∧ sameT yk yn yf y2k y2n y2f = true) := ⟨h1, h2⟩
  clear h1 h2
  obtain ⟨W1, hW1⟩ : ∃ W1, w.alloc (.cells #[.string ⟨nm.toArray⟩, .int .i64 xk, .int .i64 xn, .slice q (len xf) c, .int .i64 yk, .int .i64 yn, .slice q' (len yf) c'] 38) = W1 := ⟨_, rfl⟩
  obtain ⟨W2, hW2⟩ : ∃ W2, W1.alloc (.cells #[.string ⟨nm.toArray⟩, .int .i64 x2k, .int .i64 x2n, .slice p (len x2f) d, .int .i64 y2k, .int .i64 y2n, .slice p' (len y2f) d'] 38) = W2 := ⟨_, rfl⟩
  have hz : W1.heap.size = w.heap.size + 1 := by rw [← hW1]; simp
  have hzz : W2.heap.size = w.heap.size + 2 := by rw [← hW2]; simp; omega
  have bx : Box7 W2 w.heap.size (.string ⟨nm.toArray⟩) (.int .i64 xk) (.int .i64 xn) (.slice q (len xf) c) (.int .i64 yk) (.int .i64 yn) (.slice q' (len yf) c') := by
    rw [← hW2, ← hW1]
    exact (Box7.new _ _ _ _ _ _ _ _).alloc _
  have bq : Box7 W2 (w.heap.size + 1) (.string ⟨nm.toArray⟩) (.int .i64 x2k) (.int .i64 x2n) (.slice p (len x2f) d) (.int .i64 y2k) (.int .i64 y2n) (.slice p' (len y2f) d') := by
    rw [← hW2, ← hz]
    exact Box7.new _ _ _ _ _ _ _ _
  have hbW : Below w.heap.size w W2 := by
    rw [← hW2, ← hW1]
    exact ((Below.refl _ _).alloc (Nat.le_refl _) _).alloc (by simp) _
  obtain ⟨u0, u1, u2, u3, u4, u5, u6⟩ := bx.facts
  obtain ⟨v0, v1, v2, v3, v4, v5, v6⟩ := bq.facts
  go_enter Try.func26, Try.ntmps26
  go_wp2_with fail
  clear hW1 hW2
  refine (rsame_any (size xf + 1) xf x2f xk xn x2k x2n q p c d W2 (by omega) (by omega) (by omega) (hq.below hbW) (hp.below hbW)).mono ?_
  rintro e w3 ⟨rfl, hb3⟩
  rw [H1.out.1]
  have bx3 := bx.below hb3 (by omega)
  have bq3 := bq.below hb3 (by omega)
  have hbW3 : Below w.heap.size w w3 := hbW.trans (hb3.mono (by omega))
  obtain ⟨c0, c1, c2, c3, c4, c5, c6⟩ := bx3.facts
  obtain ⟨d0, d1, d2, d3, d4, d5, d6⟩ := bq3.facts
  go_wp2_with fail
  refine (rsame_any (size yf + 1) yf y2f yk yn y2k y2n q' p' c' d' w3 (by omega) (by omega) (by omega) (hq'.below hbW3) (hp'.below hbW3)).mono ?_
  rintro e w4 ⟨rfl, hb4⟩
  rw [H1.out.2]
  go_wp2_with fail
  go_ret
  exact ⟨rfl, hbW3.trans (hb4.mono hbW3.size)⟩
end Go.Proofs.Ytcgpjihfligdbaa
