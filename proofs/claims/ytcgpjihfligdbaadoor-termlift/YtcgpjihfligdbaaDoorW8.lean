/-
  Lift and Put: what each variable becomes, and the whole term.
-/
import Derived.Test.YtcgpjihfligdbaaDoorW7
import Derived.Test.YtcgpjihfligdbaaDoorPlain8
namespace Go.Proofs.YtcgpjihfligdbaaDoor
open Go.RowKit Tmx

set_option maxHeartbeats 400000 in
theorem lift1_any (by_ last n within : Int) (x y : Nat) (w : World) (hb0 : 0 ≤ by_) (hb1 : by_ ≤ 1152921504606846976) (hn0 : 0 ≤ n) (hn1 : n ≤ 1152921504606846976) (hw0 : 0 ≤ within) (hw1 : within ≤ 1152921504606846976)
    (cl : w.cell? ⟨x, 0, none⟩ = some (.int .i64 last)) (cb : w.cell? ⟨y, 0, none⟩ = some (.int .i64 by_)) :
    Calls Tryd.prog 42 #[.int .i64 n, .int .i64 within, .pointer (some ⟨x, 0, none⟩), .pointer (some ⟨y, 0, none⟩)] w fun e w' => (∃ v, e = .returned v ∧ Tm w.heap.size w' v (liftG by_ last n within)) ∧ Below w.heap.size w w' := by
  have hx : x < w.heap.size := World.block_lt_of_cell? w ⟨x, 0, none⟩ cl
  have hy : y < w.heap.size := World.block_lt_of_cell? w ⟨y, 0, none⟩ cb
  by_cases h : last ≤ n - within
  · have E : Hid (liftG by_ last n within = (1, n + by_, .nil)) := by unfold liftG; rw [if_pos h]; rfl
    go_enter Tryd.func42, Tryd.ntmps42
    go_wp2_with fail
    refine (variable_any (n + by_) _).mono ?_
    rintro e w1 ⟨rfl, hb⟩
    have hbox := (Box.new w (.int .i64 0) (.int .i64 0) (.slice none 0 0)).below hb
    obtain ⟨c0, c1, c2, f0, f1, f2⟩ := hbox.facts
    go_wp2_with fail
    obtain ⟨d0, d1, d2, _, _, _⟩ := (hbox.set (.int .i64 1) (.int .i64 (n + by_)) (.slice none 0 0)).facts
    refine bodyPost_ret (v := .agg #[.int .i64 1, .int .i64 (n + by_), .slice none 0 0]) (by simp [results, Tryd.results42, go_sem, d0, d1, d2]) rfl ⟨⟨_, rfl, none, 0, by rw [E.out]; rfl, ?_⟩, ?_⟩
    · rw [E.out]; exact SlF.nil _ _ _
    · exact (((((Below.refl _ _).alloc (Nat.le_refl _) _).trans (hb.mono (by simp))).setCell (Nat.le_refl _) _).setCell (Nat.le_refl _) _).setCell (Nat.le_refl _) _
  · have E : Hid (liftG by_ last n within = (1, n, .nil)) := by unfold liftG; rw [if_neg h]; rfl
    have h2 : n - within < last := by omega
    clear h
    go_enter Tryd.func42, Tryd.ntmps42
    go_wp2_with fail
    refine (variable_any n _).mono ?_
    rintro e w1 ⟨rfl, hb⟩
    have hbox := (Box.new w (.int .i64 0) (.int .i64 0) (.slice none 0 0)).below hb
    obtain ⟨c0, c1, c2, f0, f1, f2⟩ := hbox.facts
    go_wp2_with fail
    obtain ⟨d0, d1, d2, _, _, _⟩ := (hbox.set (.int .i64 1) (.int .i64 n) (.slice none 0 0)).facts
    refine bodyPost_ret (v := .agg #[.int .i64 1, .int .i64 n, .slice none 0 0]) (by simp [results, Tryd.results42, go_sem, d0, d1, d2]) rfl ⟨⟨_, rfl, none, 0, by rw [E.out]; rfl, ?_⟩, ?_⟩
    · rw [E.out]; exact SlF.nil _ _ _
    · exact (((((Below.refl _ _).alloc (Nat.le_refl _) _).trans (hb.mono (by simp))).setCell (Nat.le_refl _) _).setCell (Nat.le_refl _) _).setCell (Nat.le_refl _) _

theorem hcLift : ∀ a W, Sem.run Tryd.prog (callFunc 42 a) W = .ok (Next.enter 42 a) W := fun a W => by kernel_rfl
theorem hcPut : ∀ a W, Sem.run Tryd.prog (callFunc 46 a) W = .ok (Next.enter 46 a) W := fun a W => by kernel_rfl

theorem lift_makes (by_ last : Int) (x y : Nat) (W : World) (hb0 : 0 ≤ by_) (hb1 : by_ ≤ 1152921504606846976) (cl : W.cell? ⟨x, 0, none⟩ = some (.int .i64 last)) (cb : W.cell? ⟨y, 0, none⟩ = some (.int .i64 by_)) :
    Makes 42 #[.pointer (some ⟨x, 0, none⟩), .pointer (some ⟨y, 0, none⟩)] (liftG by_ last) W := fun n within w hb hn0 hn1 hw0 hw1 =>
  lift1_any by_ last n within x y w hb0 hb1 hn0 hn1 hw0 hw1 (below_some hb _ _ _ cl) (below_some hb _ _ _ cb)

set_option maxHeartbeats 400000 in
theorem lift_any (f : F) (k n by_ last : Int) (q : Option Addr) (cap : Nat) (w : World) (hsz : size f ≤ 1099511627776) (hnum : nums f) (hkn : k = 1 → 0 ≤ n ∧ n ≤ 1152921504606846976) (hb0 : 0 ≤ by_) (hb1 : by_ ≤ 1152921504606846976) (hl0 : 0 ≤ last) (hs : Sl w q f) :
    Calls Tryd.prog 12 #[.agg #[.int .i64 k, .int .i64 n, .slice q (len f) cap], .int .i64 by_, .int .i64 last] w fun e w' => (∃ v, e = .returned v ∧ Tm w.heap.size w' v (mapT (liftG by_ last) k n f 0)) ∧ Below w.heap.size w w' := by
  go_enter Tryd.func12, Tryd.ntmps12
  go_wp2_with fail
  have hB4 : Below w.heap.size w ((((w.alloc (.cells #[.int .i64 k, .int .i64 n, .slice q (len f) cap] 24)).alloc (.cells #[.int .i64 by_] 3)).alloc (.cells #[.int .i64 last] 3)).alloc (.cells #[.int .i64 0, .int .i64 0, .slice none 0 0] 24)) :=
    ((((Below.refl _ _).alloc (Nat.le_refl _) _).alloc (by simp) _).alloc (by simp; omega) _).alloc (by simp; omega) _
  have hbox0 := Box.new (((w.alloc (.cells #[.int .i64 k, .int .i64 n, .slice q (len f) cap] 24)).alloc (.cells #[.int .i64 by_] 3)).alloc (.cells #[.int .i64 last] 3)) (.int .i64 0) (.int .i64 0) (.slice none 0 0)
  rw [World.size_alloc, World.size_alloc, World.size_alloc] at hbox0
  have cl : ((((w.alloc (.cells #[.int .i64 k, .int .i64 n, .slice q (len f) cap] 24)).alloc (.cells #[.int .i64 by_] 3)).alloc (.cells #[.int .i64 last] 3)).alloc (.cells #[.int .i64 0, .int .i64 0, .slice none 0 0] 24)).cell? ⟨w.heap.size + 1 + 1, 0, none⟩ = some (.int .i64 last) := by simp [go_sem]
  have cb : ((((w.alloc (.cells #[.int .i64 k, .int .i64 n, .slice q (len f) cap] 24)).alloc (.cells #[.int .i64 by_] 3)).alloc (.cells #[.int .i64 last] 3)).alloc (.cells #[.int .i64 0, .int .i64 0, .slice none 0 0] 24)).cell? ⟨w.heap.size + 1, 0, none⟩ = some (.int .i64 by_) := by simp [go_sem]
  have hsize : ((((w.alloc (.cells #[.int .i64 k, .int .i64 n, .slice q (len f) cap] 24)).alloc (.cells #[.int .i64 by_] 3)).alloc (.cells #[.int .i64 last] 3)).alloc (.cells #[.int .i64 0, .int .i64 0, .slice none 0 0] 24)).heap.size = w.heap.size + 4 := by simp
  generalize ((((w.alloc (.cells #[.int .i64 k, .int .i64 n, .slice q (len f) cap] 24)).alloc (.cells #[.int .i64 by_] 3)).alloc (.cells #[.int .i64 last] 3)).alloc (.cells #[.int .i64 0, .int .i64 0, .slice none 0 0] 24)) = W4 at *
  refine (map_any 42 _ (liftG by_ last) W4 hcLift (lift_makes by_ last (w.heap.size + 1 + 1) (w.heap.size + 1) W4 hb0 hb1 cl cb) (size f + 1) f k n 0 q cap W4 (by omega) hsz hnum hkn (by omega) (by omega) (hs.below hB4) (Below.refl _ _)).mono ?_
  rintro e w1 ⟨⟨v, rfl, p, cap', rfl, hsl⟩, hb⟩
  have hbox := hbox0.below hb
  obtain ⟨c0, c1, c2, f0, f1, f2⟩ := hbox.facts
  have hz := hb.size
  clear cl cb hbox0
  rw [hsize] at hsl hz
  generalize hX : mapT (liftG by_ last) k n f 0 = X at hsl ⊢
  have HX : Hid (mapT (liftG by_ last) k n f 0 = X) := hX
  clear hX
  go_wp2_with fail
  obtain ⟨d0, d1, d2, _, _, _⟩ := (hbox.set (.int .i64 X.1) (.int .i64 X.2.1) (.slice p (len X.2.2) cap')).facts
  refine bodyPost_ret (v := .agg #[.int .i64 X.1, .int .i64 X.2.1, .slice p (len X.2.2) cap']) (by simp [results, Tryd.results12, go_sem, d0, d1, d2]) rfl ⟨⟨_, rfl, p, cap', by rw [HX.out], ?_⟩, ?_⟩
  · rw [HX.out]
    exact (((hsl.setCell (by show w.heap.size + 1 + 1 + 1 < _; omega) _).setCell (by show w.heap.size + 1 + 1 + 1 < _; omega) _).setCell (by show w.heap.size + 1 + 1 + 1 < _; omega) _).mono (by omega)
  · exact (((hB4.trans (hb.mono (by omega))).setCell (by simp; omega) _).setCell (by simp; omega) _).setCell (by simp; omega) _
end Go.Proofs.YtcgpjihfligdbaaDoor
