/-
  Put: a term, where what was bound last is another one.
-/
import Derived.Test.YtcgpjihfligdbaaDoorW8
namespace Go.Proofs.YtcgpjihfligdbaaDoor
open Go.RowKit Tmx

set_option maxHeartbeats 400000 in
theorem put1_any (uk un n within : Int) (uf : F) (q : Option Addr) (cap x : Nat) (w : World) (hn0 : 0 ≤ n) (hn1 : n ≤ 1152921504606846976) (hw0 : 0 ≤ within) (hw1 : within ≤ 1152921504606846976)
    (hsz : size uf ≤ 1099511627776) (hnum : nums uf) (hkn : uk = 1 → 0 ≤ un ∧ un ≤ 1152921504606846976) (hs : Sl w q uf) (bx : Box w x (.int .i64 uk) (.int .i64 un) (.slice q (len uf) cap)) :
    Calls Tryd.prog 46 #[.int .i64 n, .int .i64 within, .pointer (some ⟨x, 0, none⟩)] w fun e w' => (∃ v, e = .returned v ∧ Tm w.heap.size w' v (putG uk un uf n within)) ∧ Below w.heap.size w w' := by
  have hx := bx.lt
  obtain ⟨x0, x1, x2, _, _, _⟩ := bx.facts
  by_cases h : n = within
  · have E : Hid (putG uk un uf n within = mapT (liftG within 0) uk un uf 0) := by unfold putG; rw [if_pos h]; rfl
    have t1 : (n == within) = true := by simpa using h
    clear h
    go_enter Tryd.func46, Tryd.ntmps46
    go_wp2_with fail
    refine (lift_any uf uk un within 0 q cap _ hsz hnum hkn hw0 hw1 (by omega) (hs.below ((Below.refl _ _).alloc (Nat.le_refl _) _))).mono ?_
    rintro e w1 ⟨⟨v, rfl, p, cap', rfl, hsl⟩, hb⟩
    have hbox := (Box.new w (.int .i64 0) (.int .i64 0) (.slice none 0 0)).below hb
    obtain ⟨c0, c1, c2, f0, f1, f2⟩ := hbox.facts
    rw [World.size_alloc] at hsl
    generalize mapT (liftG within 0) uk un uf 0 = X at E hsl ⊢
    go_wp2_with fail
    obtain ⟨d0, d1, d2, _, _, _⟩ := (hbox.set (.int .i64 X.1) (.int .i64 X.2.1) (.slice p (len X.2.2) cap')).facts
    refine bodyPost_ret (v := .agg #[.int .i64 X.1, .int .i64 X.2.1, .slice p (len X.2.2) cap']) (by simp [results, Tryd.results46, go_sem, d0, d1, d2]) rfl ⟨⟨_, rfl, p, cap', by rw [E.out], ?_⟩, ?_⟩
    · rw [E.out]
      exact (((hsl.setCell (by show w.heap.size < _; omega) _).setCell (by show w.heap.size < _; omega) _).setCell (by show w.heap.size < _; omega) _).mono (by omega)
    · exact (((((Below.refl _ _).alloc (Nat.le_refl _) _).trans (hb.mono (by simp))).setCell (Nat.le_refl _) _).setCell (Nat.le_refl _) _).setCell (Nat.le_refl _) _
  · have t1 : (n == within) = false := by simpa using h
    by_cases h2 : within < n
    · have E : Hid (putG uk un uf n within = (1, n - 1, .nil)) := by unfold putG; rw [if_neg h, if_pos h2]; rfl
      clear h
      go_enter Tryd.func46, Tryd.ntmps46
      go_wp2_with fail
      refine (variable_any (n - 1) _).mono ?_
      rintro e w1 ⟨rfl, hb⟩
      have hbox := (Box.new w (.int .i64 0) (.int .i64 0) (.slice none 0 0)).below hb
      obtain ⟨c0, c1, c2, f0, f1, f2⟩ := hbox.facts
      go_wp2_with fail
      obtain ⟨d0, d1, d2, _, _, _⟩ := (hbox.set (.int .i64 1) (.int .i64 (n - 1)) (.slice none 0 0)).facts
      refine bodyPost_ret (v := .agg #[.int .i64 1, .int .i64 (n - 1), .slice none 0 0]) (by simp [results, Tryd.results46, go_sem, d0, d1, d2]) rfl ⟨⟨_, rfl, none, 0, by rw [E.out]; rfl, ?_⟩, ?_⟩
      · rw [E.out]; exact SlF.nil _ _ _
      · exact (((((Below.refl _ _).alloc (Nat.le_refl _) _).trans (hb.mono (by simp))).setCell (Nat.le_refl _) _).setCell (Nat.le_refl _) _).setCell (Nat.le_refl _) _
    · have E : Hid (putG uk un uf n within = (1, n, .nil)) := by unfold putG; rw [if_neg h, if_neg h2]; rfl
      clear h
      go_enter Tryd.func46, Tryd.ntmps46
      go_wp2_with fail
      refine (variable_any n _).mono ?_
      rintro e w1 ⟨rfl, hb⟩
      have hbox := (Box.new w (.int .i64 0) (.int .i64 0) (.slice none 0 0)).below hb
      obtain ⟨c0, c1, c2, f0, f1, f2⟩ := hbox.facts
      go_wp2_with fail
      obtain ⟨d0, d1, d2, _, _, _⟩ := (hbox.set (.int .i64 1) (.int .i64 n) (.slice none 0 0)).facts
      refine bodyPost_ret (v := .agg #[.int .i64 1, .int .i64 n, .slice none 0 0]) (by simp [results, Tryd.results46, go_sem, d0, d1, d2]) rfl ⟨⟨_, rfl, none, 0, by rw [E.out]; rfl, ?_⟩, ?_⟩
      · rw [E.out]; exact SlF.nil _ _ _
      · exact (((((Below.refl _ _).alloc (Nat.le_refl _) _).trans (hb.mono (by simp))).setCell (Nat.le_refl _) _).setCell (Nat.le_refl _) _).setCell (Nat.le_refl _) _

theorem put_makes (uk un : Int) (uf : F) (q : Option Addr) (cap x : Nat) (W : World) (hsz : size uf ≤ 1099511627776) (hnum : nums uf) (hkn : uk = 1 → 0 ≤ un ∧ un ≤ 1152921504606846976) (hs : Sl W q uf) (bx : Box W x (.int .i64 uk) (.int .i64 un) (.slice q (len uf) cap)) :
    Makes 46 #[.pointer (some ⟨x, 0, none⟩)] (putG uk un uf) W := fun n within w hb hn0 hn1 hw0 hw1 =>
  put1_any uk un n within uf q cap x w hn0 hn1 hw0 hw1 hsz hnum hkn (hs.below hb) (bx.below hb)

set_option maxHeartbeats 400000 in
theorem put_any (f uf : F) (k n uk un : Int) (q uq : Option Addr) (cap ucap : Nat) (w : World) (hsz : size f ≤ 1099511627776) (hnum : nums f) (hkn : k = 1 → 0 ≤ n ∧ n ≤ 1152921504606846976) (hs : Sl w q f)
    (usz : size uf ≤ 1099511627776) (unum : nums uf) (ukn : uk = 1 → 0 ≤ un ∧ un ≤ 1152921504606846976) (us : Sl w uq uf) :
    Calls Tryd.prog 15 #[.agg #[.int .i64 k, .int .i64 n, .slice q (len f) cap], .agg #[.int .i64 uk, .int .i64 un, .slice uq (len uf) ucap]] w fun e w' => (∃ v, e = .returned v ∧ Tm w.heap.size w' v (mapT (putG uk un uf) k n f 0)) ∧ Below w.heap.size w w' := by
  go_enter Tryd.func15, Tryd.ntmps15
  go_wp2_with fail
  have hB4 : Below w.heap.size w (((w.alloc (.cells #[.int .i64 k, .int .i64 n, .slice q (len f) cap] 24)).alloc (.cells #[.int .i64 uk, .int .i64 un, .slice uq (len uf) ucap] 24)).alloc (.cells #[.int .i64 0, .int .i64 0, .slice none 0 0] 24)) :=
    (((Below.refl _ _).alloc (Nat.le_refl _) _).alloc (by simp) _).alloc (by simp; omega) _
  have hbox0 := Box.new ((w.alloc (.cells #[.int .i64 k, .int .i64 n, .slice q (len f) cap] 24)).alloc (.cells #[.int .i64 uk, .int .i64 un, .slice uq (len uf) ucap] 24)) (.int .i64 0) (.int .i64 0) (.slice none 0 0)
  rw [World.size_alloc, World.size_alloc] at hbox0
  have hboxu := (Box.new (w.alloc (.cells #[.int .i64 k, .int .i64 n, .slice q (len f) cap] 24)) (.int .i64 uk) (.int .i64 un) (.slice uq (len uf) ucap)).alloc (.cells #[.int .i64 0, .int .i64 0, .slice none 0 0] 24)
  rw [World.size_alloc] at hboxu
  have hsize : (((w.alloc (.cells #[.int .i64 k, .int .i64 n, .slice q (len f) cap] 24)).alloc (.cells #[.int .i64 uk, .int .i64 un, .slice uq (len uf) ucap] 24)).alloc (.cells #[.int .i64 0, .int .i64 0, .slice none 0 0] 24)).heap.size = w.heap.size + 3 := by simp
  generalize (((w.alloc (.cells #[.int .i64 k, .int .i64 n, .slice q (len f) cap] 24)).alloc (.cells #[.int .i64 uk, .int .i64 un, .slice uq (len uf) ucap] 24)).alloc (.cells #[.int .i64 0, .int .i64 0, .slice none 0 0] 24)) = W4 at *
  refine (map_any 46 _ (putG uk un uf) W4 hcPut (put_makes uk un uf uq ucap (w.heap.size + 1) W4 usz unum ukn (us.below hB4) hboxu) (size f + 1) f k n 0 q cap W4 (by omega) hsz hnum hkn (by omega) (by omega) (hs.below hB4) (Below.refl _ _)).mono ?_
  rintro e w1 ⟨⟨v, rfl, p, cap', rfl, hsl⟩, hb⟩
  have hbox := hbox0.below hb
  obtain ⟨c0, c1, c2, f0, f1, f2⟩ := hbox.facts
  have hz := hb.size
  clear hbox0 hboxu
  rw [hsize] at hsl hz
  generalize hX : mapT (putG uk un uf) k n f 0 = X at hsl ⊢
  have HX : Hid (mapT (putG uk un uf) k n f 0 = X) := hX
  clear hX
  go_wp2_with fail
  obtain ⟨d0, d1, d2, _, _, _⟩ := (hbox.set (.int .i64 X.1) (.int .i64 X.2.1) (.slice p (len X.2.2) cap')).facts
  refine bodyPost_ret (v := .agg #[.int .i64 X.1, .int .i64 X.2.1, .slice p (len X.2.2) cap']) (by simp [results, Tryd.results15, go_sem, d0, d1, d2]) rfl ⟨⟨_, rfl, p, cap', by rw [HX.out], ?_⟩, ?_⟩
  · rw [HX.out]
    exact (((hsl.setCell (by show w.heap.size + 1 + 1 < _; omega) _).setCell (by show w.heap.size + 1 + 1 < _; omega) _).setCell (by show w.heap.size + 1 + 1 < _; omega) _).mono (by omega)
  · exact (((hB4.trans (hb.mono (by omega))).setCell (by simp; omega) _).setCell (by simp; omega) _).setCell (by simp; omega) _
end Go.Proofs.YtcgpjihfligdbaaDoor
