/-
  The statement TermLift of the program: it answers true.
-/
import Derived.Test.YtcgpjihfligdbaaDoorW24
import Derived.Test.YtcgpjihfligdbaaDoorW6
namespace Go.Proofs.YtcgpjihfligdbaaDoor
open Go.RowKit Tmx
set_option maxRecDepth 60000

set_option maxHeartbeats 4000000 in
theorem termLift_any (f uf : F) (k n uk un bound a b : Int) (q uq : Option Addr) (cap ucap : Nat) (w : World) (hs : Sl w q f) (us : Sl w uq uf) :
    Calls Tryd.prog 3 #[.agg #[.int .i64 k, .int .i64 n, .slice q (len f) cap], .agg #[.int .i64 uk, .int .i64 un, .slice uq (len uf) ucap], .int .i64 bound, .int .i64 a, .int .i64 b] w fun e w' => e = .returned (.bool true) ∧ Below w.heap.size w w' := by
  have bt0 := (Box.new w (.int .i64 k) (.int .i64 n) (.slice q (len f) cap)).alloc (.cells #[.int .i64 uk, .int .i64 un, .slice uq (len uf) ucap] 24)
  have bu0 := Box.new (w.alloc (.cells #[.int .i64 k, .int .i64 n, .slice q (len f) cap] 24)) (.int .i64 uk) (.int .i64 un) (.slice uq (len uf) ucap)
  rw [World.size_alloc] at bu0
  have hB0 : Below w.heap.size w ((w.alloc (.cells #[.int .i64 k, .int .i64 n, .slice q (len f) cap] 24)).alloc (.cells #[.int .i64 uk, .int .i64 un, .slice uq (len uf) ucap] 24)) := ((Below.refl _ _).alloc (Nat.le_refl _) _).alloc (by simp) _
  by_cases h1' : bound < 0
  · have d1 : decide (bound < 0) = true := by simpa using h1'
    go_enter Tryd.func3, Tryd.ntmps3
    go_wp2_with fail
    refine (alive_any _).mono ?_
    rintro e w1 ⟨rfl, hb1⟩
    have bt1 := bt0.below hb1
    have bu1 := bu0.below hb1
    have hB1 := hB0.trans (hb1.mono (by simp; omega))
    obtain ⟨t0, t1, t2, _, _, _⟩ := bt1.facts
    obtain ⟨u0, u1, u2, _, _, _⟩ := bu1.facts
    clear hb1 bt0 bu0 hB0
    go_wp2_with fail
    go_ret
    exact ⟨rfl, hB1⟩
  · have d1 : decide (bound < 0) = false := by simpa using h1'
    have h1 : 0 ≤ bound := by omega
    clear h1'
    by_cases h2 : 100 < bound
    · have d2 : decide (100 < bound) = true := by simpa using h2
      go_enter Tryd.func3, Tryd.ntmps3
      go_wp2_with fail
      refine (alive_any _).mono ?_
      rintro e w1 ⟨rfl, hb1⟩
      have bt1 := bt0.below hb1
      have bu1 := bu0.below hb1
      have hB1 := hB0.trans (hb1.mono (by simp; omega))
      obtain ⟨t0, t1, t2, _, _, _⟩ := bt1.facts
      obtain ⟨u0, u1, u2, _, _, _⟩ := bu1.facts
      clear hb1 bt0 bu0 hB0
      go_wp2_with fail
      go_ret
      exact ⟨rfl, hB1⟩
    · have d2 : decide (100 < bound) = false := by simpa using h2
      have h2' : bound ≤ 100 := by omega
      clear h2
      cases htw' : (wrongT 9 bound k n f != 0)
      · have HTW : Hid (wrongT 9 bound k n f = 0) := by show _ = _; simpa using htw'
        clear htw'
        cases huw' : (wrongT 9 bound uk un uf != 0)
        · have HUW : Hid (wrongT 9 bound uk un uf = 0) := by show _ = _; simpa using huw'
          clear huw'
          by_cases h3 : a < 0
          · have d3 : decide (a < 0) = true := by simpa using h3
            go_enter Tryd.func3, Tryd.ntmps3
            go_wp2_with fail
            refine (alive_any _).mono ?_
            rintro e w1 ⟨rfl, hb1⟩
            have bt1 := bt0.below hb1
            have bu1 := bu0.below hb1
            have hB1 := hB0.trans (hb1.mono (by simp; omega))
            obtain ⟨t0, t1, t2, _, _, _⟩ := bt1.facts
            obtain ⟨u0, u1, u2, _, _, _⟩ := bu1.facts
            clear hb1 bt0 bu0 hB0
            go_wp2_with fail
            refine (rwrong_any f k n q cap bound 9 _ h1 (by omega) (hs.below hB1)).mono ?_
            rintro e w2 ⟨rfl, hb2⟩
            have bt2 := bt1.below hb2
            have bu2 := bu1.below hb2
            have hB2 := hB1.trans (hb2.mono hB1.size)
            clear t0 t1 t2 u0 u1 u2 hb2 bt1 bu1
            obtain ⟨t0, t1, t2, _, _, _⟩ := bt2.facts
            obtain ⟨u0, u1, u2, _, _, _⟩ := bu2.facts
            rw [HTW.out]
            go_wp2_with fail
            refine (rwrong_any uf uk un uq ucap bound 9 _ h1 (by omega) (us.below hB2)).mono ?_
            rintro e w3 ⟨rfl, hb3⟩
            have bt3 := bt2.below hb3
            have bu3 := bu2.below hb3
            have hB3 := hB2.trans (hb3.mono hB2.size)
            clear t0 t1 t2 u0 u1 u2 hb3 bt2 bu2
            obtain ⟨t0, t1, t2, _, _, _⟩ := bt3.facts
            obtain ⟨u0, u1, u2, _, _, _⟩ := bu3.facts
            rw [HUW.out]
            go_wp2_with fail
            go_ret
            exact ⟨rfl, hB3⟩
          · have d3 : decide (a < 0) = false := by simpa using h3
            by_cases h4 : 100 < a
            · have d4 : decide (100 < a) = true := by simpa using h4
              go_enter Tryd.func3, Tryd.ntmps3
              go_wp2_with fail
              refine (alive_any _).mono ?_
              rintro e w1 ⟨rfl, hb1⟩
              have bt1 := bt0.below hb1
              have bu1 := bu0.below hb1
              have hB1 := hB0.trans (hb1.mono (by simp; omega))
              obtain ⟨t0, t1, t2, _, _, _⟩ := bt1.facts
              obtain ⟨u0, u1, u2, _, _, _⟩ := bu1.facts
              clear hb1 bt0 bu0 hB0
              go_wp2_with fail
              refine (rwrong_any f k n q cap bound 9 _ h1 (by omega) (hs.below hB1)).mono ?_
              rintro e w2 ⟨rfl, hb2⟩
              have bt2 := bt1.below hb2
              have bu2 := bu1.below hb2
              have hB2 := hB1.trans (hb2.mono hB1.size)
              clear t0 t1 t2 u0 u1 u2 hb2 bt1 bu1
              obtain ⟨t0, t1, t2, _, _, _⟩ := bt2.facts
              obtain ⟨u0, u1, u2, _, _, _⟩ := bu2.facts
              rw [HTW.out]
              go_wp2_with fail
              refine (rwrong_any uf uk un uq ucap bound 9 _ h1 (by omega) (us.below hB2)).mono ?_
              rintro e w3 ⟨rfl, hb3⟩
              have bt3 := bt2.below hb3
              have bu3 := bu2.below hb3
              have hB3 := hB2.trans (hb3.mono hB2.size)
              clear t0 t1 t2 u0 u1 u2 hb3 bt2 bu2
              obtain ⟨t0, t1, t2, _, _, _⟩ := bt3.facts
              obtain ⟨u0, u1, u2, _, _, _⟩ := bu3.facts
              rw [HUW.out]
              go_wp2_with fail
              go_ret
              exact ⟨rfl, hB3⟩
            · have d4 : decide (100 < a) = false := by simpa using h4
              by_cases h5 : b < 0
              · have d5 : decide (b < 0) = true := by simpa using h5
                go_enter Tryd.func3, Tryd.ntmps3
                go_wp2_with fail
                refine (alive_any _).mono ?_
                rintro e w1 ⟨rfl, hb1⟩
                have bt1 := bt0.below hb1
                have bu1 := bu0.below hb1
                have hB1 := hB0.trans (hb1.mono (by simp; omega))
                obtain ⟨t0, t1, t2, _, _, _⟩ := bt1.facts
                obtain ⟨u0, u1, u2, _, _, _⟩ := bu1.facts
                clear hb1 bt0 bu0 hB0
                go_wp2_with fail
                refine (rwrong_any f k n q cap bound 9 _ h1 (by omega) (hs.below hB1)).mono ?_
                rintro e w2 ⟨rfl, hb2⟩
                have bt2 := bt1.below hb2
                have bu2 := bu1.below hb2
                have hB2 := hB1.trans (hb2.mono hB1.size)
                clear t0 t1 t2 u0 u1 u2 hb2 bt1 bu1
                obtain ⟨t0, t1, t2, _, _, _⟩ := bt2.facts
                obtain ⟨u0, u1, u2, _, _, _⟩ := bu2.facts
                rw [HTW.out]
                go_wp2_with fail
                refine (rwrong_any uf uk un uq ucap bound 9 _ h1 (by omega) (us.below hB2)).mono ?_
                rintro e w3 ⟨rfl, hb3⟩
                have bt3 := bt2.below hb3
                have bu3 := bu2.below hb3
                have hB3 := hB2.trans (hb3.mono hB2.size)
                clear t0 t1 t2 u0 u1 u2 hb3 bt2 bu2
                obtain ⟨t0, t1, t2, _, _, _⟩ := bt3.facts
                obtain ⟨u0, u1, u2, _, _, _⟩ := bu3.facts
                rw [HUW.out]
                go_wp2_with fail
                go_ret
                exact ⟨rfl, hB3⟩
              · have d5 : decide (b < 0) = false := by simpa using h5
                by_cases h6 : 100 < b
                · have d6 : decide (100 < b) = true := by simpa using h6
                  go_enter Tryd.func3, Tryd.ntmps3
                  go_wp2_with fail
                  refine (alive_any _).mono ?_
                  rintro e w1 ⟨rfl, hb1⟩
                  have bt1 := bt0.below hb1
                  have bu1 := bu0.below hb1
                  have hB1 := hB0.trans (hb1.mono (by simp; omega))
                  obtain ⟨t0, t1, t2, _, _, _⟩ := bt1.facts
                  obtain ⟨u0, u1, u2, _, _, _⟩ := bu1.facts
                  clear hb1 bt0 bu0 hB0
                  go_wp2_with fail
                  refine (rwrong_any f k n q cap bound 9 _ h1 (by omega) (hs.below hB1)).mono ?_
                  rintro e w2 ⟨rfl, hb2⟩
                  have bt2 := bt1.below hb2
                  have bu2 := bu1.below hb2
                  have hB2 := hB1.trans (hb2.mono hB1.size)
                  clear t0 t1 t2 u0 u1 u2 hb2 bt1 bu1
                  obtain ⟨t0, t1, t2, _, _, _⟩ := bt2.facts
                  obtain ⟨u0, u1, u2, _, _, _⟩ := bu2.facts
                  rw [HTW.out]
                  go_wp2_with fail
                  refine (rwrong_any uf uk un uq ucap bound 9 _ h1 (by omega) (us.below hB2)).mono ?_
                  rintro e w3 ⟨rfl, hb3⟩
                  have bt3 := bt2.below hb3
                  have bu3 := bu2.below hb3
                  have hB3 := hB2.trans (hb3.mono hB2.size)
                  clear t0 t1 t2 u0 u1 u2 hb3 bt2 bu2
                  obtain ⟨t0, t1, t2, _, _, _⟩ := bt3.facts
                  obtain ⟨u0, u1, u2, _, _, _⟩ := bu3.facts
                  rw [HUW.out]
                  go_wp2_with fail
                  go_ret
                  exact ⟨rfl, hB3⟩
                · have d6 : decide (100 < b) = false := by simpa using h6
                  have h3' : 0 ≤ a := by omega
                  have h4' : a ≤ 100 := by omega
                  have h5' : 0 ≤ b := by omega
                  have h6' : b ≤ 100 := by omega
                  clear h3 h4 h5 h6
                  go_enter Tryd.func3, Tryd.ntmps3
                  go_wp2_with fail
                  refine (alive_any _).mono ?_
                  rintro e w1 ⟨rfl, hb1⟩
                  have bt1 := bt0.below hb1
                  have bu1 := bu0.below hb1
                  have hB1 := hB0.trans (hb1.mono (by simp; omega))
                  obtain ⟨t0, t1, t2, _, _, _⟩ := bt1.facts
                  obtain ⟨u0, u1, u2, _, _, _⟩ := bu1.facts
                  clear hb1 bt0 bu0 hB0
                  go_wp2_with fail
                  refine (rwrong_any f k n q cap bound 9 _ h1 (by omega) (hs.below hB1)).mono ?_
                  rintro e w2 ⟨rfl, hb2⟩
                  have bt2 := bt1.below hb2
                  have bu2 := bu1.below hb2
                  have hB2 := hB1.trans (hb2.mono hB1.size)
                  clear t0 t1 t2 u0 u1 u2 hb2 bt1 bu1
                  obtain ⟨t0, t1, t2, _, _, _⟩ := bt2.facts
                  obtain ⟨u0, u1, u2, _, _, _⟩ := bu2.facts
                  rw [HTW.out]
                  go_wp2_with fail
                  refine (rwrong_any uf uk un uq ucap bound 9 _ h1 (by omega) (us.below hB2)).mono ?_
                  rintro e w3 ⟨rfl, hb3⟩
                  have bt3 := bt2.below hb3
                  have bu3 := bu2.below hb3
                  have hB3 := hB2.trans (hb3.mono hB2.size)
                  clear t0 t1 t2 u0 u1 u2 hb3 bt2 bu2
                  obtain ⟨t0, t1, t2, _, _, _⟩ := bt3.facts
                  obtain ⟨u0, u1, u2, _, _, _⟩ := bu3.facts
                  rw [HUW.out]
                  go_wp2_with fail
                  clear hB1 hB2
                  have rt := wrong_right (by omega) HTW.out
                  have ru := wrong_right (by omega) HUW.out
                  have rx : Right (1000 + 1) (mapT (liftG 1 0) k n f 0).1 (mapT (liftG 1 0) k n f 0).2.1 (mapT (liftG 1 0) k n f 0).2.2 := rt.lift (b := 1) (last := 0) (by omega)
                  have ra : Right (1000 + a) (mapT (liftG a 0) k n f 0).1 (mapT (liftG a 0) k n f 0).2.1 (mapT (liftG a 0) k n f 0).2.2 := rt.lift (b := a) (last := 0) h3'
                  have F1 := liftT_uses k n f
                  have F2 := put_liftT uk un uf k n f rt.leafs rt.leaf
                  have F3 := lift_liftT a b (by omega) k n f
                  have F4 := lift_sizeT 1 0 k n f rt.leafs rt.leaf
                  have F5 := lift_sizeT (a + b) 0 k n f rt.leafs rt.leaf
                  obtain ⟨X, hX⟩ : ∃ X, mapT (liftG 1 0) k n f 0 = X := ⟨_, rfl⟩
                  obtain ⟨A, hA⟩ : ∃ A, mapT (liftG a 0) k n f 0 = A := ⟨_, rfl⟩
                  obtain ⟨S, hS⟩ : ∃ S, mapT (liftG (a + b) 0) k n f 0 = S := ⟨_, rfl⟩
                  rw [hX] at rx F1 F2 F4
                  rw [hA] at ra F3
                  rw [hS] at F3 F5
                  obtain ⟨Y, hY⟩ : ∃ Y, mapT (putG uk un uf) X.1 X.2.1 X.2.2 0 = Y := ⟨_, rfl⟩
                  rw [hY] at F2
                  have F6 : size Y.2.2 = size f := by
                    have h := F2
                    unfold sameT at h
                    simp only [Bool.and_eq_true] at h
                    exact same_size _ _ h.2
                  have CX : Hid (∀ W, Sl W q f → Calls Tryd.prog 12 #[.agg #[.int .i64 k, .int .i64 n, .slice q (len f) cap], .int .i64 1, .int .i64 0] W fun e w' => (∃ v, e = .returned v ∧ Tm W.heap.size w' v X) ∧ Below W.heap.size W w') := fun W h => by
                    rw [← hX]
                    exact lift_any f k n 1 0 q cap W (by have := rt.small; omega) (rt.nums.nums (by omega)) (fun e => ⟨(rt.num e).1, by have := (rt.num e).2; omega⟩) (by omega) (by omega) (by omega) h
                  have CA : Hid (∀ W, Sl W q f → Calls Tryd.prog 12 #[.agg #[.int .i64 k, .int .i64 n, .slice q (len f) cap], .int .i64 a, .int .i64 0] W fun e w' => (∃ v, e = .returned v ∧ Tm W.heap.size w' v A) ∧ Below W.heap.size W w') := fun W h => by
                    rw [← hA]
                    exact lift_any f k n a 0 q cap W (by have := rt.small; omega) (rt.nums.nums (by omega)) (fun e => ⟨(rt.num e).1, by have := (rt.num e).2; omega⟩) (by omega) (by omega) (by omega) h
                  have CS : Hid (∀ W, Sl W q f → Calls Tryd.prog 12 #[.agg #[.int .i64 k, .int .i64 n, .slice q (len f) cap], .int .i64 (a + b), .int .i64 0] W fun e w' => (∃ v, e = .returned v ∧ Tm W.heap.size w' v S) ∧ Below W.heap.size W w') := fun W h => by
                    rw [← hS]
                    exact lift_any f k n (a + b) 0 q cap W (by have := rt.small; omega) (rt.nums.nums (by omega)) (fun e => ⟨(rt.num e).1, by have := (rt.num e).2; omega⟩) (by omega) (by omega) (by omega) h
                  have CB : Hid (∀ W p c, Sl W p A.2.2 → Calls Tryd.prog 12 #[.agg #[.int .i64 A.1, .int .i64 A.2.1, .slice p (len A.2.2) c], .int .i64 b, .int .i64 0] W fun e w' => (∃ v, e = .returned v ∧ Tm W.heap.size w' v S) ∧ Below W.heap.size W w') := fun W p c h => by
                    have h0 := lift_any A.2.2 A.1 A.2.1 b 0 p c W (by have := ra.small; omega) (ra.nums.nums (by omega)) (fun e => ⟨(ra.num e).1, by have := (ra.num e).2; omega⟩) (by omega) (by omega) (by omega) h
                    rw [F3] at h0
                    exact h0
                  have CU : Hid (∀ W p c, Sl W p X.2.2 → Calls Tryd.prog 13 #[.agg #[.int .i64 X.1, .int .i64 X.2.1, .slice p (len X.2.2) c], .int .i64 0] W fun e w' => e = .returned (.bool false) ∧ Below W.heap.size W w') := fun W p c h => by
                    have h0 := uses_any X.2.2 X.1 X.2.1 0 p c W (by have := rx.small; omega) (rx.nums.nums (by omega)) (fun e => ⟨(rx.num e).1, by have := (rx.num e).2; omega⟩) (by omega) h
                    rw [F1] at h0
                    exact h0
                  have CP : Hid (∀ W p c, Sl W p X.2.2 → Sl W uq uf → Calls Tryd.prog 15 #[.agg #[.int .i64 X.1, .int .i64 X.2.1, .slice p (len X.2.2) c], .agg #[.int .i64 uk, .int .i64 un, .slice uq (len uf) ucap]] W fun e w' => (∃ v, e = .returned v ∧ Tm W.heap.size w' v Y) ∧ Below W.heap.size W w') := fun W p c h h' => by
                    rw [← hY]
                    exact put_any X.2.2 uf X.1 X.2.1 uk un p uq c ucap W (by have := rx.small; omega) (rx.nums.nums (by omega)) (fun e => ⟨(rx.num e).1, by have := (rx.num e).2; omega⟩) h (by have := ru.small; omega) (ru.nums.nums (by omega)) (fun e => ⟨(ru.num e).1, by have := (ru.num e).2; omega⟩) h'
                  have CY : Hid (∀ W p c, Sl W p Y.2.2 → Sl W q f → Calls Tryd.prog 14 #[.agg #[.int .i64 Y.1, .int .i64 Y.2.1, .slice p (len Y.2.2) c], .agg #[.int .i64 k, .int .i64 n, .slice q (len f) cap]] W fun e w' => e = .returned (.bool true) ∧ Below W.heap.size W w') := fun W p c h h' => by
                    have h0 := rsame_any 70 Y.2.2 f Y.1 Y.2.1 k n p q c cap W (by have := rt.small; omega) (by have := rt.small; omega) (by have := rt.small; omega) h h'
                    rw [F2] at h0
                    exact h0
                  have CZ : Hid (∀ W p c p' c', Sl W p S.2.2 → Sl W p' S.2.2 → Calls Tryd.prog 14 #[.agg #[.int .i64 S.1, .int .i64 S.2.1, .slice p (len S.2.2) c], .agg #[.int .i64 S.1, .int .i64 S.2.1, .slice p' (len S.2.2) c']] W fun e w' => e = .returned (.bool true) ∧ Below W.heap.size W w') := fun W p c p' c' h h' => by
                    have h0 := rsame_any 70 S.2.2 S.2.2 S.1 S.2.1 S.1 S.2.1 p p' c c' W (by have := rt.small; omega) (by have := rt.small; omega) (by have := rt.small; omega) h h'
                    rw [sameT_refl] at h0
                    exact h0
                  have CN : Hid (∀ W p c, Sl W p X.2.2 → Calls Tryd.prog 16 #[.agg #[.int .i64 X.1, .int .i64 X.2.1, .slice p (len X.2.2) c]] W fun e w' => e = .returned (.int .i64 ((size f : Int) + 1)) ∧ Below W.heap.size W w') := fun W p c h => by
                    have h0 := size_any 70 X.2.2 X.1 X.2.1 p c W (by have := rx.small; omega) (by have := rx.small; omega) h
                    rw [F4] at h0
                    exact h0
                  have CM : Hid (∀ W, Sl W q f → Calls Tryd.prog 16 #[.agg #[.int .i64 k, .int .i64 n, .slice q (len f) cap]] W fun e w' => e = .returned (.int .i64 ((size f : Int) + 1)) ∧ Below W.heap.size W w') := fun W h => size_any 70 f k n q cap W (by have := rt.small; omega) (by have := rt.small; omega) h
                  have hsmall := rt.small
                  clear rt ru rx ra F1 F2 F3 F4 F5 F6 hX hA hS hY HTW HUW
                  refine (CX.out _ (hs.below hB3)).mono ?_
                  rintro e w4 ⟨⟨v, rfl, px, cx, rfl, hsx⟩, hb4⟩
                  have bt5 := (bt3.below hb4).alloc (.cells #[.int .i64 X.1, .int .i64 X.2.1, .slice px (len X.2.2) cx] 24)
                  have bu5 := (bu3.below hb4).alloc (.cells #[.int .i64 X.1, .int .i64 X.2.1, .slice px (len X.2.2) cx] 24)
                  have bx5 := Box.new w4 (.int .i64 X.1) (.int .i64 X.2.1) (.slice px (len X.2.2) cx)
                  have hB4 := hB3.trans (hb4.mono hB3.size)
                  have hal := (Below.refl w4.heap.size w4).alloc (Nat.le_refl _) (.cells #[.int .i64 X.1, .int .i64 X.2.1, .slice px (len X.2.2) cx] 24)
                  have hB5 := hB4.trans (hal.mono hB4.size)
                  have st5 := hs.below hB5
                  have su5 := us.below hB5
                  have sx5 := hsx.sl.below hal
                  clear t0 t1 t2 u0 u1 u2 hb4 bt3 bu3 hB3 hB4 hal hsx CX hs us
                  obtain ⟨bt5a, bt5b, bt5c, _, _, _⟩ := bt5.facts
                  obtain ⟨bu5a, bu5b, bu5c, _, _, _⟩ := bu5.facts
                  obtain ⟨bx5a, bx5b, bx5c, _, _, _⟩ := bx5.facts
                  have lx5 := bx5.lt
                  go_wp2_with fail
                  go_region_held3 (fun w' => w'.cell? ⟨w.heap.size, 0, none⟩ = some (.int .i64 k) ∧ w'.cell? ⟨w.heap.size, 1, none⟩ = some (.int .i64 n) ∧ w'.cell? ⟨w.heap.size, 2, none⟩ = some (.slice q (len f) cap) ∧
                      w'.cell? ⟨w.heap.size + 1, 0, none⟩ = some (.int .i64 uk) ∧ w'.cell? ⟨w.heap.size + 1, 1, none⟩ = some (.int .i64 un) ∧ w'.cell? ⟨w.heap.size + 1, 2, none⟩ = some (.slice uq (len uf) ucap) ∧
                      w'.cell? ⟨w4.heap.size, 0, none⟩ = some (.int .i64 X.1) ∧ w'.cell? ⟨w4.heap.size, 1, none⟩ = some (.int .i64 X.2.1) ∧ w'.cell? ⟨w4.heap.size, 2, none⟩ = some (.slice px (len X.2.2) cx)) (go_keep)
                    (first
                      | (go_at_call 13; refine (CU.out _ px cx (sx5.below (Below.refl _ _).drew)).mono ?_; rintro e w6 ⟨rfl, hb6'⟩; have hb6 := undrew hb6'; clear hb6' CU; have bt6 := bt5.below hb6; have bu6 := bu5.below hb6; have bx6 := bx5.below hb6; have st6 := st5.below hb6; have su6 := su5.below hb6; have sx6 := sx5.below hb6; have hB6 := hB5.trans (hb6.mono hB5.size); obtain ⟨bt6a, bt6b, bt6c, _, _, _⟩ := bt6.facts; obtain ⟨bu6a, bu6b, bu6c, _, _, _⟩ := bu6.facts; obtain ⟨bx6a, bx6b, bx6c, _, _, _⟩ := bx6.facts)
                      | (go_at_call 15; refine (CP.out _ px cx sx6 su6).mono ?_; rintro e w7 ⟨⟨v, rfl, py, cy, rfl, hsy⟩, hb7⟩; have sy7 := hsy.sl; clear hsy CP; have bt7 := bt6.below hb7; have bu7 := bu6.below hb7; have bx7 := bx6.below hb7; have st7 := st6.below hb7; have su7 := su6.below hb7; have sx7 := sx6.below hb7; have hB7 := hB6.trans (hb7.mono hB6.size); obtain ⟨bt7a, bt7b, bt7c, _, _, _⟩ := bt7.facts; obtain ⟨bu7a, bu7b, bu7c, _, _, _⟩ := bu7.facts; obtain ⟨bx7a, bx7b, bx7c, _, _, _⟩ := bx7.facts)
                      | (go_at_call 14; refine (CY.out _ py cy sy7 st7).mono ?_; rintro e w8 ⟨rfl, hb8⟩; clear CY; have bt8 := bt7.below hb8; have bu8 := bu7.below hb8; have bx8 := bx7.below hb8; have st8 := st7.below hb8; have su8 := su7.below hb8; have sx8 := sx7.below hb8; have hB8 := hB7.trans (hb8.mono hB7.size); obtain ⟨bt8a, bt8b, bt8c, _, _, _⟩ := bt8.facts; obtain ⟨bu8a, bu8b, bu8c, _, _, _⟩ := bu8.facts; obtain ⟨bx8a, bx8b, bx8c, _, _, _⟩ := bx8.facts)
                      | (go_at_call 12; refine (CA.out _ st8).mono ?_; rintro e w9 ⟨⟨v, rfl, pa, ca, rfl, hsa⟩, hb9⟩; have sa9 := hsa.sl; clear hsa CA; have bt9 := bt8.below hb9; have bu9 := bu8.below hb9; have bx9 := bx8.below hb9; have st9 := st8.below hb9; have su9 := su8.below hb9; have sx9 := sx8.below hb9; have hB9 := hB8.trans (hb9.mono hB8.size); obtain ⟨bt9a, bt9b, bt9c, _, _, _⟩ := bt9.facts; obtain ⟨bu9a, bu9b, bu9c, _, _, _⟩ := bu9.facts; obtain ⟨bx9a, bx9b, bx9c, _, _, _⟩ := bx9.facts)
                      | (go_at_call 12; refine (CB.out _ pa ca sa9).mono ?_; rintro e w10 ⟨⟨v, rfl, pb, cb, rfl, hsb⟩, hb10⟩; have sb10 := hsb.sl; clear hsb CB; have bt10 := bt9.below hb10; have bu10 := bu9.below hb10; have bx10 := bx9.below hb10; have st10 := st9.below hb10; have su10 := su9.below hb10; have sx10 := sx9.below hb10; have hB10 := hB9.trans (hb10.mono hB9.size); obtain ⟨bt10a, bt10b, bt10c, _, _, _⟩ := bt10.facts; obtain ⟨bu10a, bu10b, bu10c, _, _, _⟩ := bu10.facts; obtain ⟨bx10a, bx10b, bx10c, _, _, _⟩ := bx10.facts)
                      | (go_at_call 12; rw [wrapI (a + b) (by omega) (by omega)]; refine (CS.out _ st10).mono ?_; rintro e w11 ⟨⟨v, rfl, ps, cs, rfl, hss⟩, hb11⟩; have ss11 := hss.sl; have sb11 := sb10.below hb11; clear hss CS; have bt11 := bt10.below hb11; have bu11 := bu10.below hb11; have bx11 := bx10.below hb11; have st11 := st10.below hb11; have su11 := su10.below hb11; have sx11 := sx10.below hb11; have hB11 := hB10.trans (hb11.mono hB10.size); obtain ⟨bt11a, bt11b, bt11c, _, _, _⟩ := bt11.facts; obtain ⟨bu11a, bu11b, bu11c, _, _, _⟩ := bu11.facts; obtain ⟨bx11a, bx11b, bx11c, _, _, _⟩ := bx11.facts)
                      | (go_at_call 14; refine (CZ.out _ pb cb ps cs sb11 ss11).mono ?_; rintro e w12 ⟨rfl, hb12⟩; clear CZ; have bt12 := bt11.below hb12; have bu12 := bu11.below hb12; have bx12 := bx11.below hb12; have st12 := st11.below hb12; have su12 := su11.below hb12; have sx12 := sx11.below hb12; have hB12 := hB11.trans (hb12.mono hB11.size); obtain ⟨bt12a, bt12b, bt12c, _, _, _⟩ := bt12.facts; obtain ⟨bu12a, bu12b, bu12c, _, _, _⟩ := bu12.facts; obtain ⟨bx12a, bx12b, bx12c, _, _, _⟩ := bx12.facts)
                      | (go_at_call 16; refine (CN.out _ px cx sx12).mono ?_; rintro e w13 ⟨rfl, hb13⟩; clear CN; have bt13 := bt12.below hb13; have bu13 := bu12.below hb13; have bx13 := bx12.below hb13; have st13 := st12.below hb13; have su13 := su12.below hb13; have sx13 := sx12.below hb13; have hB13 := hB12.trans (hb13.mono hB12.size); obtain ⟨bt13a, bt13b, bt13c, _, _, _⟩ := bt13.facts; obtain ⟨bu13a, bu13b, bu13c, _, _, _⟩ := bu13.facts; obtain ⟨bx13a, bx13b, bx13c, _, _, _⟩ := bx13.facts)
                      | (go_at_call 16; refine (CM.out _ st13).mono ?_; rintro e w14 ⟨rfl, hb14⟩; clear CM; have bt14 := bt13.below hb14; have bu14 := bu13.below hb14; have bx14 := bx13.below hb14; have st14 := st13.below hb14; have su14 := su13.below hb14; have sx14 := sx13.below hb14; have hB14 := hB13.trans (hb14.mono hB13.size); obtain ⟨bt14a, bt14b, bt14c, _, _, _⟩ := bt14.facts; obtain ⟨bu14a, bu14b, bu14c, _, _, _⟩ := bu14.facts; obtain ⟨bx14a, bx14b, bx14c, _, _, _⟩ := bx14.facts))
                  all_goals
                    go_wp2_with fail
                    go_ret
                    exact ⟨rfl, hB14⟩
        · 
          go_enter Tryd.func3, Tryd.ntmps3
          go_wp2_with fail
          refine (alive_any _).mono ?_
          rintro e w1 ⟨rfl, hb1⟩
          have bt1 := bt0.below hb1
          have bu1 := bu0.below hb1
          have hB1 := hB0.trans (hb1.mono (by simp; omega))
          obtain ⟨t0, t1, t2, _, _, _⟩ := bt1.facts
          obtain ⟨u0, u1, u2, _, _, _⟩ := bu1.facts
          clear hb1 bt0 bu0 hB0
          go_wp2_with fail
          refine (rwrong_any f k n q cap bound 9 _ h1 (by omega) (hs.below hB1)).mono ?_
          rintro e w2 ⟨rfl, hb2⟩
          have bt2 := bt1.below hb2
          have bu2 := bu1.below hb2
          have hB2 := hB1.trans (hb2.mono hB1.size)
          clear t0 t1 t2 u0 u1 u2 hb2 bt1 bu1
          obtain ⟨t0, t1, t2, _, _, _⟩ := bt2.facts
          obtain ⟨u0, u1, u2, _, _, _⟩ := bu2.facts
          rw [HTW.out]
          go_wp2_with fail
          refine (rwrong_any uf uk un uq ucap bound 9 _ h1 (by omega) (us.below hB2)).mono ?_
          rintro e w3 ⟨rfl, hb3⟩
          have bt3 := bt2.below hb3
          have bu3 := bu2.below hb3
          have hB3 := hB2.trans (hb3.mono hB2.size)
          clear t0 t1 t2 u0 u1 u2 hb3 bt2 bu2
          obtain ⟨t0, t1, t2, _, _, _⟩ := bt3.facts
          obtain ⟨u0, u1, u2, _, _, _⟩ := bu3.facts
          go_wp2_with fail
          go_ret
          exact ⟨rfl, hB3⟩
      · 
        go_enter Tryd.func3, Tryd.ntmps3
        go_wp2_with fail
        refine (alive_any _).mono ?_
        rintro e w1 ⟨rfl, hb1⟩
        have bt1 := bt0.below hb1
        have bu1 := bu0.below hb1
        have hB1 := hB0.trans (hb1.mono (by simp; omega))
        obtain ⟨t0, t1, t2, _, _, _⟩ := bt1.facts
        obtain ⟨u0, u1, u2, _, _, _⟩ := bu1.facts
        clear hb1 bt0 bu0 hB0
        go_wp2_with fail
        refine (rwrong_any f k n q cap bound 9 _ h1 (by omega) (hs.below hB1)).mono ?_
        rintro e w2 ⟨rfl, hb2⟩
        have bt2 := bt1.below hb2
        have bu2 := bu1.below hb2
        have hB2 := hB1.trans (hb2.mono hB1.size)
        clear t0 t1 t2 u0 u1 u2 hb2 bt1 bu1
        obtain ⟨t0, t1, t2, _, _, _⟩ := bt2.facts
        obtain ⟨u0, u1, u2, _, _, _⟩ := bu2.facts
        go_wp2_with fail
        go_ret
        exact ⟨rfl, hB2⟩
end Go.Proofs.YtcgpjihfligdbaaDoor
