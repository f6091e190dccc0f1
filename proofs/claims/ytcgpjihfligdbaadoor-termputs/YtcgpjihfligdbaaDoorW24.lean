/-
  The first fact of the statements holds: the program is there.
-/
import Derived.Test.YtcgpjihfligdbaaDoorW23
namespace Go.Proofs.YtcgpjihfligdbaaDoor
open Go.RowKit Tmx
set_option maxRecDepth 60000

theorem x1n : nums x1.2.2 := by simp [x1, nums]
theorem x3n : nums x3.2.2 := by simp [x3, nums]
theorem x4n : nums x4.2.2 := by simp [x4, nums]

set_option maxHeartbeats 2000000 in
theorem alive_any (w : World) : Calls Tryd.prog 10 #[] w fun e w' => e = .returned (.bool true) ∧ Below w.heap.size w w' := by
  go_enter Tryd.func10, Tryd.ntmps10
  go_wp2_with fail
  refine (binds17 _).mono ?_
  rintro e w1 ⟨⟨g, rfl, cg⟩, hb1⟩
  go_wp2_with fail
  refine (rd1 w1).mono ?_
  rintro e w2 ⟨⟨a1, c1, rfl, hs1⟩, hb2⟩
  have hb12 : Below w.heap.size w w2 := hb1.trans (hb2.mono hb1.size)
  have cg2 : w2.cell? ⟨g, 2, none⟩ = some (.int .i64 2) := below_some hb2 _ _ _ cg
  have hg2 : g < w2.heap.size := World.block_lt_of_cell? w2 ⟨g, 2, none⟩ cg2
  clear hb1 hb2 cg
  have bT := Box.new w2 (.int .i64 4) (.int .i64 0) (.slice a1 (len x1.2.2) c1)
  have hal := (Below.refl w2.heap.size w2).alloc (Nat.le_refl _) (.cells #[.int .i64 4, .int .i64 0, .slice a1 (len x1.2.2) c1] 24)
  have hs1' := hs1.sl.below hal
  have hbT := hb12.trans (hal.mono hb12.size)
  clear hal hs1
  go_wp2_with fail
  refine (size_any 60 x1.2.2 4 0 a1 c1 _ (by decide) (by decide) hs1').mono ?_
  rintro e w3 ⟨rfl, hb3⟩
  rw [show ((size x1.2.2 : Nat) : Int) + 1 = 5 from rfl]
  have bT3 := bT.below hb3
  have hs3 := hs1'.below hb3
  have hbT3 := hbT.trans (hb3.mono hbT.size)
  clear bT hs1' hbT hb3 cg2 hg2 hb12
  obtain ⟨t0, t1, t2, _, _, _⟩ := bT3.facts
  go_wp2_with fail
  clear t0 t1 t2
  refine (twrong_any x1.2.2 4 0 a1 c1 2 0 _ x1n (by omega) hs3).mono ?_
  rintro e w4 ⟨rfl, hb4⟩
  rw [show wrongT 0 2 4 0 x1.2.2 = 0 from q1]
  have bT4 := bT3.below hb4
  have hs4 := hs3.below hb4
  have hbT4 := hbT3.trans (hb4.mono hbT3.size)
  clear bT3 hs3 hbT3 hb4
  obtain ⟨t0, t1, t2, _, _, _⟩ := bT4.facts
  go_wp2_with fail
  clear t0 t1 t2
  refine (twrong_any x1.2.2 4 0 a1 c1 0 0 _ x1n (by omega) hs4).mono ?_
  rintro e w5 ⟨rfl, hb5⟩
  rw [show wrongT 0 0 4 0 x1.2.2 = 3 from q2]
  have bT5 := bT4.below hb5
  have hs5 := hs4.below hb5
  have hbT5 := hbT4.trans (hb5.mono hbT4.size)
  clear bT4 hs4 hbT4 hb5
  obtain ⟨t0, t1, t2, _, _, _⟩ := bT5.facts
  go_wp2_with fail
  clear t0 t1 t2
  refine (lift_any x1.2.2 4 0 1 0 a1 c1 _ (by decide) x1n (by omega) (by omega) (by omega) (by omega) hs5).mono ?_
  rintro e w6 ⟨⟨v, rfl, a6, c6, rfl, hsl6⟩, hb6⟩
  have bT6 := bT5.below hb6
  have hs6 := hs5.below hb6
  have hL6 := hsl6.sl
  have hbT6 := hbT5.trans (hb6.mono hbT5.size)
  clear bT5 hs5 hbT5 hb6 hsl6
  go_wp2_with fail
  refine (rd2 w6).mono ?_
  rintro e w7 ⟨⟨a7, c7, rfl, hs7'⟩, hb7⟩
  have bT7 := bT6.below hb7
  have hs7 := hs6.below hb7
  have hL7 := hL6.below hb7
  have hR7 := hs7'.sl
  have hbT7 := hbT6.trans (hb7.mono hbT6.size)
  clear bT6 hs6 hL6 hbT6 hb7 hs7'
  go_wp2_with fail
  refine (tsame_any 60 (mapT (liftG 1 0) 4 0 x1.2.2 0).2.2 x2.2.2 (mapT (liftG 1 0) 4 0 x1.2.2 0).1 (mapT (liftG 1 0) 4 0 x1.2.2 0).2.1 4 0 a6 a7 c6 c7 _ (by decide) (by decide) (by decide) hL7 hR7).mono ?_
  rintro e w8 ⟨rfl, hb8⟩
  rw [show sameT (mapT (liftG 1 0) 4 0 x1.2.2 0).1 (mapT (liftG 1 0) 4 0 x1.2.2 0).2.1 (mapT (liftG 1 0) 4 0 x1.2.2 0).2.2 4 0 x2.2.2 = true from q3]
  have bT8 := bT7.below hb8
  have hs8 := hs7.below hb8
  have hbT8 := hbT7.trans (hb8.mono hbT7.size)
  clear bT7 hs7 hL7 hR7 hbT7 hb8
  go_wp2_with fail
  refine (rd3 w8).mono ?_
  rintro e w9 ⟨⟨a9, c9, rfl, hs9'⟩, hb9⟩
  have bT9 := bT8.below hb9
  have hs9 := hs8.below hb9
  have hA9 := hs9'.sl
  have hbT9 := hbT8.trans (hb9.mono hbT8.size)
  clear bT8 hs8 hbT8 hb9 hs9'
  go_wp2_with fail
  refine (rd4 w9).mono ?_
  rintro e w10 ⟨⟨a10, c10, rfl, hs10'⟩, hb10⟩
  have bT10 := bT9.below hb10
  have hs10 := hs9.below hb10
  have hA10 := hA9.below hb10
  have hB10 := hs10'.sl
  have hbT10 := hbT9.trans (hb10.mono hbT9.size)
  clear bT9 hs9 hA9 hbT9 hb10 hs10'
  go_wp2_with fail
  refine (put_any x3.2.2 x4.2.2 5 0 1 0 a9 a10 c9 c10 _ (by decide) x3n (by omega) hA10 (by decide) x4n (by omega) hB10).mono ?_
  rintro e w11 ⟨⟨v, rfl, a11, c11, rfl, hsl11⟩, hb11⟩
  have bT11 := bT10.below hb11
  have hs11 := hs10.below hb11
  have hP11 := hsl11.sl
  have hbT11 := hbT10.trans (hb11.mono hbT10.size)
  clear bT10 hs10 hA10 hB10 hbT10 hb11 hsl11
  go_wp2_with fail
  refine (rd5 w11).mono ?_
  rintro e w12 ⟨⟨a12, c12, rfl, hs12'⟩, hb12⟩
  have bT12 := bT11.below hb12
  have hs12 := hs11.below hb12
  have hP12 := hP11.below hb12
  have hR12 := hs12'.sl
  have hbT12 := hbT11.trans (hb12.mono hbT11.size)
  clear bT11 hs11 hP11 hbT11 hb12 hs12'
  go_wp2_with fail
  refine (tsame_any 60 (mapT (putG 1 0 x4.2.2) 5 0 x3.2.2 0).2.2 x5.2.2 (mapT (putG 1 0 x4.2.2) 5 0 x3.2.2 0).1 (mapT (putG 1 0 x4.2.2) 5 0 x3.2.2 0).2.1 5 0 a11 a12 c11 c12 _ (by decide) (by decide) (by decide) hP12 hR12).mono ?_
  rintro e w13 ⟨rfl, hb13⟩
  rw [show sameT (mapT (putG 1 0 x4.2.2) 5 0 x3.2.2 0).1 (mapT (putG 1 0 x4.2.2) 5 0 x3.2.2 0).2.1 (mapT (putG 1 0 x4.2.2) 5 0 x3.2.2 0).2.2 5 0 x5.2.2 = true from q4]
  have bT13 := bT12.below hb13
  have hs13 := hs12.below hb13
  have hbT13 := hbT12.trans (hb13.mono hbT12.size)
  clear bT12 hs12 hP12 hR12 hbT12 hb13
  obtain ⟨t0, t1, t2, _, _, _⟩ := bT13.facts
  go_wp2_with fail
  clear t0 t1 t2
  refine (uses_any x1.2.2 4 0 1 a1 c1 _ (by decide) x1n (by omega) (by omega) hs13).mono ?_
  rintro e w14 ⟨rfl, hb14⟩
  rw [show anyT (usesG 1) 4 0 x1.2.2 0 = true from q5]
  have bT14 := bT13.below hb14
  have hs14 := hs13.below hb14
  have hbT14 := hbT13.trans (hb14.mono hbT13.size)
  clear bT13 hs13 hbT13 hb14
  obtain ⟨t0, t1, t2, _, _, _⟩ := bT14.facts
  go_wp2_with fail
  clear t0 t1 t2
  refine (uses_any x1.2.2 4 0 0 a1 c1 _ (by decide) x1n (by omega) (by omega) hs14).mono ?_
  rintro e w15 ⟨rfl, hb15⟩
  rw [show anyT (usesG 0) 4 0 x1.2.2 0 = false from q6]
  have hbT15 := hbT14.trans (hb15.mono hbT14.size)
  go_wp2_with fail
  go_ret
  exact ⟨rfl, hbT15⟩
end Go.Proofs.YtcgpjihfligdbaaDoor
