/-
  The statement TermPuts of the program: it answers true.
-/
import Derived.Test.YtcgpjihfligdbaaDoorW24
import Derived.Test.YtcgpjihfligdbaaDoorW6
import Derived.Test.YtcgpjihfligdbaaDoorW27
namespace Go.Proofs.YtcgpjihfligdbaaDoor
open Go.RowKit Tmx
set_option maxRecDepth 60000

/-- A box that is filled. -/
theorem fill {w : World} {B lo : Nat} {z0 z1 z2 : Value} {x : Int × Int × F} {p : Option Addr} {c : Nat} (b : Box w B z0 z1 z2) (hs : SlF lo w p x.2.2) (hlo : B < lo) :
    ∃ w7, ((w.setCell ⟨B, 0, none⟩ (.int .i64 x.1)).setCell ⟨B, 1, none⟩ (.int .i64 x.2.1)).setCell ⟨B, 2, none⟩ (.slice p (len x.2.2) c) = w7 ∧ Box w7 B (.int .i64 x.1) (.int .i64 x.2.1) (.slice p (len x.2.2) c) ∧ Sl w7 p x.2.2 ∧
      (∀ C a0 a1 a2, C ≠ B → Box w C a0 a1 a2 → Box w7 C a0 a1 a2) ∧ (∀ (w0 : World) (n : Nat), n ≤ B → Below n w0 w → Below n w0 w7) :=
  ⟨_, rfl, b.set _ _ _, (((hs.setCell hlo _).setCell hlo _).setCell hlo _).sl, fun _ _ _ _ hC h => ((h.setOther hC _).setOther hC _).setOther hC _, fun _ _ hn h => ((h.setCell hn _).setCell hn _).setCell hn _⟩
/-- A box that is laid. -/
theorem fill_new {w : World} {lo : Nat} {x : Int × Int × F} {p : Option Addr} {c : Nat} (hs : SlF lo w p x.2.2) :
    ∃ w7, w.alloc (.cells #[.int .i64 x.1, .int .i64 x.2.1, .slice p (len x.2.2) c] 24) = w7 ∧ Box w7 w.heap.size (.int .i64 x.1) (.int .i64 x.2.1) (.slice p (len x.2.2) c) ∧ Sl w7 p x.2.2 ∧
      (∀ C a0 a1 a2, C ≠ w.heap.size → Box w C a0 a1 a2 → Box w7 C a0 a1 a2) ∧ (∀ (w0 : World) (n : Nat), n ≤ w.heap.size → Below n w0 w → Below n w0 w7) :=
  ⟨_, rfl, Box.new _ _ _ _, hs.sl.below ((Below.refl _ _).alloc (Nat.le_refl _) _), fun _ _ _ _ _ h => h.alloc _, fun _ _ hn h => h.alloc hn _⟩

set_option maxHeartbeats 4000000 in
theorem termPuts_any (f uf vf : F) (k n uk un vk vn bound : Int) (q uq vq : Option Addr) (cap ucap vcap : Nat) (w : World) (hs : Sl w q f) (us : Sl w uq uf) (vs : Sl w vq vf) :
    Calls Tryd.prog 4 #[.agg #[.int .i64 k, .int .i64 n, .slice q (len f) cap], .agg #[.int .i64 uk, .int .i64 un, .slice uq (len uf) ucap], .agg #[.int .i64 vk, .int .i64 vn, .slice vq (len vf) vcap], .int .i64 bound] w fun e w' => e = .returned (.bool true) ∧ Below w.heap.size w w' := by
  have bt0 := ((Box.new w (.int .i64 k) (.int .i64 n) (.slice q (len f) cap)).alloc (.cells #[.int .i64 uk, .int .i64 un, .slice uq (len uf) ucap] 24)).alloc (.cells #[.int .i64 vk, .int .i64 vn, .slice vq (len vf) vcap] 24)
  have bu0 := (Box.new (w.alloc (.cells #[.int .i64 k, .int .i64 n, .slice q (len f) cap] 24)) (.int .i64 uk) (.int .i64 un) (.slice uq (len uf) ucap)).alloc (.cells #[.int .i64 vk, .int .i64 vn, .slice vq (len vf) vcap] 24)
  have bv0 := Box.new ((w.alloc (.cells #[.int .i64 k, .int .i64 n, .slice q (len f) cap] 24)).alloc (.cells #[.int .i64 uk, .int .i64 un, .slice uq (len uf) ucap] 24)) (.int .i64 vk) (.int .i64 vn) (.slice vq (len vf) vcap)
  rw [World.size_alloc] at bu0
  rw [World.size_alloc, World.size_alloc] at bv0
  have hB0 : Below w.heap.size w (((w.alloc (.cells #[.int .i64 k, .int .i64 n, .slice q (len f) cap] 24)).alloc (.cells #[.int .i64 uk, .int .i64 un, .slice uq (len uf) ucap] 24)).alloc (.cells #[.int .i64 vk, .int .i64 vn, .slice vq (len vf) vcap] 24)) := (((Below.refl _ _).alloc (Nat.le_refl _) _).alloc (by simp) _).alloc (by simp; omega) _
  by_cases h1' : bound < 0
  · have d1 : decide (bound < 0) = true := by simpa using h1'
    go_enter Tryd.func4, Tryd.ntmps4
    go_wp2_with fail
    refine (alive_any _).mono ?_
    rintro e w1 ⟨rfl, hb1⟩
    have bt1 := bt0.below hb1
    have bu1 := bu0.below hb1
    have bv1 := bv0.below hb1
    have hB1 := hB0.trans (hb1.mono (by simp; omega))
    obtain ⟨t1a, t1b, t1c, _, _, _⟩ := bt1.facts
    obtain ⟨u1a, u1b, u1c, _, _, _⟩ := bu1.facts
    obtain ⟨v1a, v1b, v1c, _, _, _⟩ := bv1.facts
    clear hb1 bt0 bu0 bv0 hB0
    go_wp2_with fail
    go_ret
    exact ⟨rfl, hB1⟩
  · have d1 : decide (bound < 0) = false := by simpa using h1'
    have h1 : 0 ≤ bound := by omega
    clear h1'
    by_cases h2 : 100 < bound
    · have d2 : decide (100 < bound) = true := by simpa using h2
      go_enter Tryd.func4, Tryd.ntmps4
      go_wp2_with fail
      refine (alive_any _).mono ?_
      rintro e w1 ⟨rfl, hb1⟩
      have bt1 := bt0.below hb1
      have bu1 := bu0.below hb1
      have bv1 := bv0.below hb1
      have hB1 := hB0.trans (hb1.mono (by simp; omega))
      obtain ⟨t1a, t1b, t1c, _, _, _⟩ := bt1.facts
      obtain ⟨u1a, u1b, u1c, _, _, _⟩ := bu1.facts
      obtain ⟨v1a, v1b, v1c, _, _, _⟩ := bv1.facts
      clear hb1 bt0 bu0 bv0 hB0
      go_wp2_with fail
      go_ret
      exact ⟨rfl, hB1⟩
    · have d2 : decide (100 < bound) = false := by simpa using h2
      have h2' : bound ≤ 100 := by omega
      clear h2
      cases htw' : (wrongT 9 (bound + 2) k n f != 0)
      · have HTW : Hid (wrongT 9 (bound + 2) k n f = 0) := by show _ = _; simpa using htw'
        clear htw'
        cases huw' : (wrongT 9 (bound + 1) uk un uf != 0)
        · have HUW : Hid (wrongT 9 (bound + 1) uk un uf = 0) := by show _ = _; simpa using huw'
          clear huw'
          cases hvw' : (wrongT 9 bound vk vn vf != 0)
          · have HVW : Hid (wrongT 9 bound vk vn vf = 0) := by show _ = _; simpa using hvw'
            clear hvw'
            go_enter Tryd.func4, Tryd.ntmps4
            go_wp2_with fail
            refine (alive_any _).mono ?_
            rintro e w1 ⟨rfl, hb1⟩
            have bt1 := bt0.below hb1
            have bu1 := bu0.below hb1
            have bv1 := bv0.below hb1
            have hB1 := hB0.trans (hb1.mono (by simp; omega))
            obtain ⟨t1a, t1b, t1c, _, _, _⟩ := bt1.facts
            obtain ⟨u1a, u1b, u1c, _, _, _⟩ := bu1.facts
            obtain ⟨v1a, v1b, v1c, _, _, _⟩ := bv1.facts
            clear hb1 bt0 bu0 bv0 hB0
            go_wp2_with fail
            refine (rwrong_any f k n q cap (bound + 2) 9 _ (by omega) (by omega) (hs.below hB1)).mono ?_
            rintro e w2 ⟨rfl, hb2⟩
            have bt2 := bt1.below hb2
            have bu2 := bu1.below hb2
            have bv2 := bv1.below hb2
            have hB2 := hB1.trans (hb2.mono hB1.size)
            clear t1a t1b t1c u1a u1b u1c v1a v1b v1c hb2 bt1 bu1 bv1
            obtain ⟨t2a, t2b, t2c, _, _, _⟩ := bt2.facts
            obtain ⟨u2a, u2b, u2c, _, _, _⟩ := bu2.facts
            obtain ⟨v2a, v2b, v2c, _, _, _⟩ := bv2.facts
            rw [HTW.out]
            go_wp2_with fail
            refine (rwrong_any uf uk un uq ucap (bound + 1) 9 _ (by omega) (by omega) (us.below hB2)).mono ?_
            rintro e w3 ⟨rfl, hb3⟩
            have bt3 := bt2.below hb3
            have bu3 := bu2.below hb3
            have bv3 := bv2.below hb3
            have hB3 := hB2.trans (hb3.mono hB2.size)
            clear t2a t2b t2c u2a u2b u2c v2a v2b v2c hb3 bt2 bu2 bv2
            obtain ⟨t3a, t3b, t3c, _, _, _⟩ := bt3.facts
            obtain ⟨u3a, u3b, u3c, _, _, _⟩ := bu3.facts
            obtain ⟨v3a, v3b, v3c, _, _, _⟩ := bv3.facts
            rw [HUW.out]
            go_wp2_with fail
            refine (rwrong_any vf vk vn vq vcap (bound) 9 _ (by omega) (by omega) (vs.below hB3)).mono ?_
            rintro e w4 ⟨rfl, hb4⟩
            have bt4 := bt3.below hb4
            have bu4 := bu3.below hb4
            have bv4 := bv3.below hb4
            have hB4 := hB3.trans (hb4.mono hB3.size)
            clear t3a t3b t3c u3a u3b u3c v3a v3b v3c hb4 bt3 bu3 bv3
            obtain ⟨t4a, t4b, t4c, _, _, _⟩ := bt4.facts
            obtain ⟨u4a, u4b, u4c, _, _, _⟩ := bu4.facts
            obtain ⟨v4a, v4b, v4c, _, _, _⟩ := bv4.facts
            rw [HVW.out]
            clear hB1 hB2 hB3
            have ot := wrong_ok HTW.out
            have mt := (wrong_right (by omega) HTW.out).mild
            have mu := (wrong_right (by omega) HUW.out).mild
            have mv := (wrong_right (by omega) HVW.out).mild
            obtain ⟨X1, hX1⟩ : ∃ X1, mapX (putG uk un uf) (k, n, f) 0 = X1 := ⟨_, rfl⟩
            obtain ⟨A, hA⟩ : ∃ A, mapX (putG vk vn vf) X1 0 = A := ⟨_, rfl⟩
            obtain ⟨T, hT⟩ : ∃ T, mapX swapG (k, n, f) 0 = T := ⟨_, rfl⟩
            obtain ⟨V1, hV1⟩ : ∃ V1, mapX (liftG 1 0) (vk, vn, vf) 0 = V1 := ⟨_, rfl⟩
            obtain ⟨X2, hX2⟩ : ∃ X2, mapX (putG V1.1 V1.2.1 V1.2.2) T 0 = X2 := ⟨_, rfl⟩
            obtain ⟨U, hU⟩ : ∃ U, mapX (putG vk vn vf) (uk, un, uf) 0 = U := ⟨_, rfl⟩
            have HE : mapX (putG U.1 U.2.1 U.2.2) X2 0 = A := by
              have h0 := put_put (k, n, f) (uk, un, uf) (vk, vn, vf) U V1 hU.symm hV1.symm
              dsimp only at h0
              rw [hX1, hA, hT, hX2] at h0
              exact h0.symm
            have mX1 : Mild (1000 + 1000 + 2 * (59 : Nat)) 3599 X1 := by rw [← hX1]; exact mt.put mu (by omega) (by omega)
            have mA : Mild (1000 + 1000 + 2 * (59 : Nat) + 1000 + 2 * (3599 : Nat)) 215999 A := by rw [← hA]; exact mX1.put mv (by omega) (by omega)
            have mT : Mild (1000 + 2 * (59 : Nat) + 1) 59 T := by rw [← hT]; exact mt.swap
            have mV1 : Mild (1000 + 1) 59 V1 := by rw [← hV1]; exact mv.lift (by omega) (by omega)
            have mX2 : Mild (1000 + 2 * (59 : Nat) + 1 + (1000 + 1) + 2 * (59 : Nat)) 3599 X2 := by rw [← hX2]; exact mT.put mV1 (by omega) (by omega)
            have mU : Mild (1000 + 1000 + 2 * (59 : Nat)) 3599 U := by rw [← hU]; exact mu.put mv (by omega) (by omega)
            have C1 : Hid (∀ W, Sl W q f → Sl W uq uf → Calls Tryd.prog 15 #[.agg #[.int .i64 k, .int .i64 n, .slice q (len f) cap], .agg #[.int .i64 uk, .int .i64 un, .slice uq (len uf) ucap]] W fun e w' => (∃ v, e = .returned v ∧ Tm W.heap.size w' v X1) ∧ Below W.heap.size W w') := fun W h h' => by rw [← hX1]; exact put_any f uf k n uk un q uq cap ucap W (by have := mt.small; (try dsimp only at this); omega) (mt.nums.nums (by omega)) (fun e => ⟨(mt.num e).1, by have := (mt.num e).2; (try dsimp only at this); omega⟩) h (by have := mu.small; (try dsimp only at this); omega) (mu.nums.nums (by omega)) (fun e => ⟨(mu.num e).1, by have := (mu.num e).2; (try dsimp only at this); omega⟩) h'
            have C2 : Hid (∀ W p c, Sl W p X1.2.2 → Sl W vq vf → Calls Tryd.prog 15 #[.agg #[.int .i64 X1.1, .int .i64 X1.2.1, .slice p (len X1.2.2) c], .agg #[.int .i64 vk, .int .i64 vn, .slice vq (len vf) vcap]] W fun e w' => (∃ v, e = .returned v ∧ Tm W.heap.size w' v A) ∧ Below W.heap.size W w') := fun W p c h h' => by rw [← hA]; exact put_any X1.2.2 vf X1.1 X1.2.1 vk vn p vq c vcap W (by have := mX1.small; (try dsimp only at this); omega) (mX1.nums.nums (by omega)) (fun e => ⟨(mX1.num e).1, by have := (mX1.num e).2; (try dsimp only at this); omega⟩) h (by have := mv.small; (try dsimp only at this); omega) (mv.nums.nums (by omega)) (fun e => ⟨(mv.num e).1, by have := (mv.num e).2; (try dsimp only at this); omega⟩) h'
            have C3 : Hid (∀ W, Sl W q f → Calls Tryd.prog 17 #[.agg #[.int .i64 k, .int .i64 n, .slice q (len f) cap], .int .i64 0] W fun e w' => (∃ v, e = .returned v ∧ Tm W.heap.size w' v T) ∧ Below W.heap.size W w') := fun W h => by rw [← hT]; exact swap_any 60 f k n 0 q cap W (by have := mt.small; (try dsimp only at this); omega) ot.1.1 ot.1.2 ot.2.1 ot.2.2 (by omega) (by have := mt.small; (try dsimp only at this); omega) h
            have C4 : Hid (∀ W, Sl W vq vf → Calls Tryd.prog 12 #[.agg #[.int .i64 vk, .int .i64 vn, .slice vq (len vf) vcap], .int .i64 1, .int .i64 0] W fun e w' => (∃ v, e = .returned v ∧ Tm W.heap.size w' v V1) ∧ Below W.heap.size W w') := fun W h => by rw [← hV1]; exact lift_any vf vk vn 1 0 vq vcap W (by have := mv.small; (try dsimp only at this); omega) (mv.nums.nums (by omega)) (fun e => ⟨(mv.num e).1, by have := (mv.num e).2; (try dsimp only at this); omega⟩) (by omega) (by omega) (by omega) h
            have C5 : Hid (∀ W p c p' c', Sl W p T.2.2 → Sl W p' V1.2.2 → Calls Tryd.prog 15 #[.agg #[.int .i64 T.1, .int .i64 T.2.1, .slice p (len T.2.2) c], .agg #[.int .i64 V1.1, .int .i64 V1.2.1, .slice p' (len V1.2.2) c']] W fun e w' => (∃ v, e = .returned v ∧ Tm W.heap.size w' v X2) ∧ Below W.heap.size W w') := fun W p c p' c' h h' => by rw [← hX2]; exact put_any T.2.2 V1.2.2 T.1 T.2.1 V1.1 V1.2.1 p p' c c' W (by have := mT.small; (try dsimp only at this); omega) (mT.nums.nums (by omega)) (fun e => ⟨(mT.num e).1, by have := (mT.num e).2; (try dsimp only at this); omega⟩) h (by have := mV1.small; (try dsimp only at this); omega) (mV1.nums.nums (by omega)) (fun e => ⟨(mV1.num e).1, by have := (mV1.num e).2; (try dsimp only at this); omega⟩) h'
            have C6 : Hid (∀ W, Sl W uq uf → Sl W vq vf → Calls Tryd.prog 15 #[.agg #[.int .i64 uk, .int .i64 un, .slice uq (len uf) ucap], .agg #[.int .i64 vk, .int .i64 vn, .slice vq (len vf) vcap]] W fun e w' => (∃ v, e = .returned v ∧ Tm W.heap.size w' v U) ∧ Below W.heap.size W w') := fun W h h' => by rw [← hU]; exact put_any uf vf uk un vk vn uq vq ucap vcap W (by have := mu.small; (try dsimp only at this); omega) (mu.nums.nums (by omega)) (fun e => ⟨(mu.num e).1, by have := (mu.num e).2; (try dsimp only at this); omega⟩) h (by have := mv.small; (try dsimp only at this); omega) (mv.nums.nums (by omega)) (fun e => ⟨(mv.num e).1, by have := (mv.num e).2; (try dsimp only at this); omega⟩) h'
            have C7 : Hid (∀ W p c p' c', Sl W p X2.2.2 → Sl W p' U.2.2 → Calls Tryd.prog 15 #[.agg #[.int .i64 X2.1, .int .i64 X2.2.1, .slice p (len X2.2.2) c], .agg #[.int .i64 U.1, .int .i64 U.2.1, .slice p' (len U.2.2) c']] W fun e w' => (∃ v, e = .returned v ∧ Tm W.heap.size w' v A) ∧ Below W.heap.size W w') := fun W p c p' c' h h' => by rw [← HE]; exact put_any X2.2.2 U.2.2 X2.1 X2.2.1 U.1 U.2.1 p p' c c' W (by have := mX2.small; (try dsimp only at this); omega) (mX2.nums.nums (by omega)) (fun e => ⟨(mX2.num e).1, by have := (mX2.num e).2; (try dsimp only at this); omega⟩) h (by have := mU.small; (try dsimp only at this); omega) (mU.nums.nums (by omega)) (fun e => ⟨(mU.num e).1, by have := (mU.num e).2; (try dsimp only at this); omega⟩) h'
            have C8 : Hid (∀ W p c p' c', Sl W p A.2.2 → Sl W p' A.2.2 → Calls Tryd.prog 14 #[.agg #[.int .i64 A.1, .int .i64 A.2.1, .slice p (len A.2.2) c], .agg #[.int .i64 A.1, .int .i64 A.2.1, .slice p' (len A.2.2) c']] W fun e w' => e = .returned (.bool true) ∧ Below W.heap.size W w') := fun W p c p' c' h h' => by
              have h0 := rsame_any 300000 A.2.2 A.2.2 A.1 A.2.1 A.1 A.2.1 p p' c c' W (by have := mA.small; omega) (by have := mA.small; omega) (by have := mA.small; omega) h h'
              rw [sameT_refl] at h0
              exact h0
            clear mt mu mv ot mX1 mA mT mV1 mX2 mU hX1 hA hT hV1 hX2 hU HE HTW HUW HVW
            have st4 := hs.below hB4
            have su4 := us.below hB4
            have sv4 := vs.below hB4
            have lv4 := bv4.lt
            have n4a : w.heap.size ≠ w4.heap.size := (by omega)
            have m4a : w4.heap.size ≠ w.heap.size := (by omega)
            have n4b : w.heap.size + 1 ≠ w4.heap.size := (by omega)
            have m4b : w4.heap.size ≠ w.heap.size + 1 := (by omega)
            have n4c : w.heap.size + 1 + 1 ≠ w4.heap.size := (by omega)
            have m4c : w4.heap.size ≠ w.heap.size + 1 + 1 := (by omega)
            go_wp2_with fail
            go_region_held3 (fun w' => w'.cell? ⟨w.heap.size, 0, none⟩ = some (.int .i64 k) ∧ w'.cell? ⟨w.heap.size, 1, none⟩ = some (.int .i64 n) ∧ w'.cell? ⟨w.heap.size, 2, none⟩ = some (.slice q (len f) cap) ∧ w'.cell? ⟨w.heap.size + 1, 0, none⟩ = some (.int .i64 uk) ∧ w'.cell? ⟨w.heap.size + 1, 1, none⟩ = some (.int .i64 un) ∧ w'.cell? ⟨w.heap.size + 1, 2, none⟩ = some (.slice uq (len uf) ucap) ∧ w'.cell? ⟨w.heap.size + 1 + 1, 0, none⟩ = some (.int .i64 vk) ∧ w'.cell? ⟨w.heap.size + 1 + 1, 1, none⟩ = some (.int .i64 vn) ∧ w'.cell? ⟨w.heap.size + 1 + 1, 2, none⟩ = some (.slice vq (len vf) vcap)) (go_keep)
              (first
                | (go_at_call 15; refine (C1.out _ (st4.below (by first | exact (Below.refl _ _).drew | exact ((Below.refl _ _).drew).alloc (Nat.le_refl _) _)) (su4.below (by first | exact (Below.refl _ _).drew | exact ((Below.refl _ _).drew).alloc (Nat.le_refl _) _))).mono ?_; rintro e w5 ⟨⟨v, rfl, p5, c5, rfl, hs5⟩, hb5'⟩; have hb5 : Below w4.heap.size w4 w5 := (by first | exact undrew hb5' | exact (((Below.refl _ _).drew).alloc (Nat.le_refl _) _).trans (hb5'.mono (by simp))); have lz5 := hb5.size; (try have bz := bz.below hb5); (try have bz : Box w5 w4.heap.size (.int .i64 0) (.int .i64 0) (.slice none 0 0) := (Box.new w4.drew (.int .i64 0) (.int .i64 0) (.slice none 0 0)).below hb5'); (try obtain ⟨z5a, z5b, z5c, y5a, y5b, y5c⟩ := bz.facts); (try have ll5 := bz.lt); clear hb5' C1; have sx5 := hs5.sl; clear hs5; have bt5 := bt4.below hb5; have bu5 := bu4.below hb5; have bv5 := bv4.below hb5; have st5 := st4.below hb5; have su5 := su4.below hb5; have sv5 := sv4.below hb5; have hB5 := hB4.trans (hb5.mono hB4.size); obtain ⟨t5a, t5b, t5c, _, _, _⟩ := bt5.facts; obtain ⟨u5a, u5b, u5c, _, _, _⟩ := bu5.facts; obtain ⟨v5a, v5b, v5c, _, _, _⟩ := bv5.facts; have lv5 := bv5.lt; have n5a : w.heap.size ≠ w5.heap.size := (by omega); have m5a : w5.heap.size ≠ w.heap.size := (by omega); have n5b : w.heap.size + 1 ≠ w5.heap.size := (by omega); have m5b : w5.heap.size ≠ w.heap.size + 1 := (by omega); have n5c : w.heap.size + 1 + 1 ≠ w5.heap.size := (by omega); have m5c : w5.heap.size ≠ w.heap.size + 1 + 1 := (by omega))
                | (go_at_call 15; refine (C2.out _ p5 c5 (sx5.below (by first | exact (Below.refl _ _) | exact ((Below.refl _ _)).alloc (Nat.le_refl _) _)) (sv5.below (by first | exact (Below.refl _ _) | exact ((Below.refl _ _)).alloc (Nat.le_refl _) _))).mono ?_; rintro e w6 ⟨⟨v, rfl, p6, c6, rfl, hs6⟩, hb6'⟩; have hb6 : Below w5.heap.size w5 w6 := (by first | exact hb6' | exact (((Below.refl _ _)).alloc (Nat.le_refl _) _).trans (hb6'.mono (by simp))); have lz6 := hb6.size; (try have bz := bz.below hb6); (try have bz : Box w6 w5.heap.size (.int .i64 0) (.int .i64 0) (.slice none 0 0) := (Box.new w5 (.int .i64 0) (.int .i64 0) (.slice none 0 0)).below hb6'); (try obtain ⟨z6a, z6b, z6c, y6a, y6b, y6c⟩ := bz.facts); (try have ll6 := bz.lt); clear hb6' C2; have bt6 := bt5.below hb6; have bu6 := bu5.below hb6; have bv6 := bv5.below hb6; have st6 := st5.below hb6; have su6 := su5.below hb6; have sv6 := sv5.below hb6; have hB6 := hB5.trans (hb6.mono hB5.size); obtain ⟨t6a, t6b, t6c, _, _, _⟩ := bt6.facts; obtain ⟨u6a, u6b, u6c, _, _, _⟩ := bu6.facts; obtain ⟨v6a, v6b, v6c, _, _, _⟩ := bv6.facts; have lv6 := bv6.lt; have n6a : w.heap.size ≠ w6.heap.size := (by omega); have m6a : w6.heap.size ≠ w.heap.size := (by omega); have n6b : w.heap.size + 1 ≠ w6.heap.size := (by omega); have m6b : w6.heap.size ≠ w.heap.size + 1 := (by omega); have n6c : w.heap.size + 1 + 1 ≠ w6.heap.size := (by omega); have m6c : w6.heap.size ≠ w.heap.size + 1 + 1 := (by omega)))
            all_goals
              first
                | (have bf : Box w6 w4.heap.size (.int .i64 0) (.int .i64 0) (.slice none 0 0) := bz; obtain ⟨w7, hwn, bn, sn, hbx, hbl⟩ := fill (c := c6) bf hs6 (by first | omega | (simp; done) | (simp; omega)))
                | (have bf : Box w6 w5.heap.size (.int .i64 0) (.int .i64 0) (.slice none 0 0) := bz; obtain ⟨w7, hwn, bn, sn, hbx, hbl⟩ := fill (c := c6) bf hs6 (by first | omega | (simp; done) | (simp; omega)))
                | (obtain ⟨w7, hwn, bn, sn, hbx, hbl⟩ := fill_new (c := c6) hs6)
              rw [hwn]
              clear hwn
              have bt7 := hbx _ _ _ _ (by omega) bt6
              have bu7 := hbx _ _ _ _ (by omega) bu6
              have bv7 := hbx _ _ _ _ (by omega) bv6
              have hB7 := hbl w w.heap.size (by omega) hB6
              have sA7 := sn
              have bk7 := bn
              have lk7 := bk7.lt
              (try clear bz)
              clear hbx hbl sn bn hs6 bt6 bu6 bv6 hB6 bt5 bu5 bv5 hB5 bt4 bu4 bv4 hB4 t4a t4b t4c u4a u4b u4c v4a v4b v4c t5a t5b t5c u5a u5b u5c v5a v5b v5c t6a t6b t6c u6a u6b u6c v6a v6b v6c st4 st5 st6 su4 su5 su6 sv4 sv5 sv6 sx5
              have st7 := hs.below hB7
              obtain ⟨t7a, t7b, t7c, _, _, _⟩ := bt7.facts
              go_wp2_with fail
              refine (C3.out _ st7).mono ?_
              rintro e w8 ⟨⟨v, rfl, p8, c8, rfl, hs8⟩, hb8⟩
              go_wp2_with fail
              obtain ⟨w9, hw9, by9, sy9, hbx, hbl⟩ := fill_new (c := c8) hs8
              rw [hw9]
              clear hw9
              have lz8 := hb8.size
              have bt9 := hbx _ _ _ _ (by have := bt7.lt; omega) (bt7.below hb8)
              have bu9 := hbx _ _ _ _ (by have := bu7.lt; omega) (bu7.below hb8)
              have bv9 := hbx _ _ _ _ (by have := bv7.lt; omega) (bv7.below hb8)
              have bk9 := hbx _ _ _ _ (by omega) (bk7.below hb8)
              have hB8 := hB7.trans (hb8.mono hB7.size)
              have hB9 := hbl w w.heap.size hB8.size hB8
              have sA9 := (sA7.below hb8).below (hbl w8 w8.heap.size (Nat.le_refl _) (Below.refl _ _))
              have st9 := hs.below hB9
              have su9 := us.below hB9
              have sv9 := vs.below hB9
              clear hbx hbl hs8 hb8 bt7 bu7 bv7 bk7 hB7 hB8 sA7 st7 t7a t7b t7c
              obtain ⟨t9a, t9b, t9c, _, _, _⟩ := bt9.facts
              obtain ⟨u9a, u9b, u9c, _, _, _⟩ := bu9.facts
              obtain ⟨v9a, v9b, v9c, _, _, _⟩ := bv9.facts
              obtain ⟨y9a, y9b, y9c, _, _, _⟩ := by9.facts
              obtain ⟨k9a, k9b, k9c, _, _, _⟩ := bk9.facts
              have lv9 := bv9.lt
              have ly9 := by9.lt
              have n9a : w.heap.size ≠ w9.heap.size := (by omega)
              have m9a : w9.heap.size ≠ w.heap.size := (by omega)
              have n9b : w.heap.size + 1 ≠ w9.heap.size := (by omega)
              have m9b : w9.heap.size ≠ w.heap.size + 1 := (by omega)
              have n9c : w.heap.size + 1 + 1 ≠ w9.heap.size := (by omega)
              have m9c : w9.heap.size ≠ w.heap.size + 1 + 1 := (by omega)
              have n9d : w8.heap.size ≠ w9.heap.size := (by omega)
              have m9d : w9.heap.size ≠ w8.heap.size := (by omega)
              go_region_held3 (fun w' => w'.cell? ⟨w8.heap.size, 0, none⟩ = some (.int .i64 T.1) ∧ w'.cell? ⟨w8.heap.size, 1, none⟩ = some (.int .i64 T.2.1) ∧ w'.cell? ⟨w8.heap.size, 2, none⟩ = some (.slice p8 (len T.2.2) c8) ∧ w'.cell? ⟨w.heap.size + 1, 0, none⟩ = some (.int .i64 uk) ∧ w'.cell? ⟨w.heap.size + 1, 1, none⟩ = some (.int .i64 un) ∧ w'.cell? ⟨w.heap.size + 1, 2, none⟩ = some (.slice uq (len uf) ucap) ∧ w'.cell? ⟨w.heap.size + 1 + 1, 0, none⟩ = some (.int .i64 vk) ∧ w'.cell? ⟨w.heap.size + 1 + 1, 1, none⟩ = some (.int .i64 vn) ∧ w'.cell? ⟨w.heap.size + 1 + 1, 2, none⟩ = some (.slice vq (len vf) vcap)) (go_keep)
                (first
                  | (go_at_call 12; refine (C4.out _ (sv9.below (by first | exact (Below.refl _ _).drew | exact ((Below.refl _ _).drew).alloc (Nat.le_refl _) _))).mono ?_; rintro e w10 ⟨⟨v, rfl, p10, c10, rfl, hs10⟩, hb10'⟩; have hb10 : Below w9.heap.size w9 w10 := (by first | exact undrew hb10' | exact (((Below.refl _ _).drew).alloc (Nat.le_refl _) _).trans (hb10'.mono (by simp))); have lz10 := hb10.size; (try have bq := bq.below hb10); (try have bq : Box w10 w9.heap.size (.int .i64 0) (.int .i64 0) (.slice none 0 0) := (Box.new w9.drew (.int .i64 0) (.int .i64 0) (.slice none 0 0)).below hb10'); (try obtain ⟨z10a, z10b, z10c, y10a, y10b, y10c⟩ := bq.facts); (try have ll10 := bq.lt); clear hb10' C4; have sl10 := hs10.sl; clear hs10; have bt10 := bt9.below hb10; have bu10 := bu9.below hb10; have bv10 := bv9.below hb10; have by10 := by9.below hb10; have bk10 := bk9.below hb10; have st10 := st9.below hb10; have su10 := su9.below hb10; have sv10 := sv9.below hb10; have sy10 := sy9.below hb10; have sA10 := sA9.below hb10; have hB10 := hB9.trans (hb10.mono hB9.size); obtain ⟨t10a, t10b, t10c, _, _, _⟩ := bt10.facts; obtain ⟨u10a, u10b, u10c, _, _, _⟩ := bu10.facts; obtain ⟨v10a, v10b, v10c, _, _, _⟩ := bv10.facts; obtain ⟨y10a, y10b, y10c, _, _, _⟩ := by10.facts; obtain ⟨k10a, k10b, k10c, _, _, _⟩ := bk10.facts; have lv10 := bv10.lt; have ly10 := by10.lt; have n10a : w.heap.size ≠ w10.heap.size := (by omega); have m10a : w10.heap.size ≠ w.heap.size := (by omega); have n10b : w.heap.size + 1 ≠ w10.heap.size := (by omega); have m10b : w10.heap.size ≠ w.heap.size + 1 := (by omega); have n10c : w.heap.size + 1 + 1 ≠ w10.heap.size := (by omega); have m10c : w10.heap.size ≠ w.heap.size + 1 + 1 := (by omega); have n10d : w8.heap.size ≠ w10.heap.size := (by omega); have m10d : w10.heap.size ≠ w8.heap.size := (by omega))
                  | (go_at_call 15; refine (C5.out _ p8 c8 p10 c10 (sy10.below (by first | exact (Below.refl _ _) | exact ((Below.refl _ _)).alloc (Nat.le_refl _) _)) (sl10.below (by first | exact (Below.refl _ _) | exact ((Below.refl _ _)).alloc (Nat.le_refl _) _))).mono ?_; rintro e w11 ⟨⟨v, rfl, p11, c11, rfl, hs11⟩, hb11'⟩; have hb11 : Below w10.heap.size w10 w11 := (by first | exact hb11' | exact (((Below.refl _ _)).alloc (Nat.le_refl _) _).trans (hb11'.mono (by simp))); have lz11 := hb11.size; (try have bq := bq.below hb11); (try have bq : Box w11 w10.heap.size (.int .i64 0) (.int .i64 0) (.slice none 0 0) := (Box.new w10 (.int .i64 0) (.int .i64 0) (.slice none 0 0)).below hb11'); (try obtain ⟨z11a, z11b, z11c, y11a, y11b, y11c⟩ := bq.facts); (try have ll11 := bq.lt); clear hb11' C5; have sx11 := hs11.sl; clear hs11; have bt11 := bt10.below hb11; have bu11 := bu10.below hb11; have bv11 := bv10.below hb11; have by11 := by10.below hb11; have bk11 := bk10.below hb11; have st11 := st10.below hb11; have su11 := su10.below hb11; have sv11 := sv10.below hb11; have sy11 := sy10.below hb11; have sA11 := sA10.below hb11; have hB11 := hB10.trans (hb11.mono hB10.size); obtain ⟨t11a, t11b, t11c, _, _, _⟩ := bt11.facts; obtain ⟨u11a, u11b, u11c, _, _, _⟩ := bu11.facts; obtain ⟨v11a, v11b, v11c, _, _, _⟩ := bv11.facts; obtain ⟨y11a, y11b, y11c, _, _, _⟩ := by11.facts; obtain ⟨k11a, k11b, k11c, _, _, _⟩ := bk11.facts; have lv11 := bv11.lt; have ly11 := by11.lt; have n11a : w.heap.size ≠ w11.heap.size := (by omega); have m11a : w11.heap.size ≠ w.heap.size := (by omega); have n11b : w.heap.size + 1 ≠ w11.heap.size := (by omega); have m11b : w11.heap.size ≠ w.heap.size + 1 := (by omega); have n11c : w.heap.size + 1 + 1 ≠ w11.heap.size := (by omega); have m11c : w11.heap.size ≠ w.heap.size + 1 + 1 := (by omega); have n11d : w8.heap.size ≠ w11.heap.size := (by omega); have m11d : w11.heap.size ≠ w8.heap.size := (by omega))
                  | (go_at_call 15; refine (C6.out _ (su11.below (by first | exact (Below.refl _ _) | exact ((Below.refl _ _)).alloc (Nat.le_refl _) _)) (sv11.below (by first | exact (Below.refl _ _) | exact ((Below.refl _ _)).alloc (Nat.le_refl _) _))).mono ?_; rintro e w12 ⟨⟨v, rfl, p12, c12, rfl, hs12⟩, hb12'⟩; have hb12 : Below w11.heap.size w11 w12 := (by first | exact hb12' | exact (((Below.refl _ _)).alloc (Nat.le_refl _) _).trans (hb12'.mono (by simp))); have lz12 := hb12.size; (try have bq := bq.below hb12); (try have bq : Box w12 w11.heap.size (.int .i64 0) (.int .i64 0) (.slice none 0 0) := (Box.new w11 (.int .i64 0) (.int .i64 0) (.slice none 0 0)).below hb12'); (try obtain ⟨z12a, z12b, z12c, y12a, y12b, y12c⟩ := bq.facts); (try have ll12 := bq.lt); clear hb12' C6; have sw12 := hs12.sl; clear hs12; have bt12 := bt11.below hb12; have bu12 := bu11.below hb12; have bv12 := bv11.below hb12; have by12 := by11.below hb12; have bk12 := bk11.below hb12; have st12 := st11.below hb12; have su12 := su11.below hb12; have sv12 := sv11.below hb12; have sy12 := sy11.below hb12; have sA12 := sA11.below hb12; have sx12 := sx11.below hb12; have hB12 := hB11.trans (hb12.mono hB11.size); obtain ⟨t12a, t12b, t12c, _, _, _⟩ := bt12.facts; obtain ⟨u12a, u12b, u12c, _, _, _⟩ := bu12.facts; obtain ⟨v12a, v12b, v12c, _, _, _⟩ := bv12.facts; obtain ⟨y12a, y12b, y12c, _, _, _⟩ := by12.facts; obtain ⟨k12a, k12b, k12c, _, _, _⟩ := bk12.facts; have lv12 := bv12.lt; have ly12 := by12.lt; have n12a : w.heap.size ≠ w12.heap.size := (by omega); have m12a : w12.heap.size ≠ w.heap.size := (by omega); have n12b : w.heap.size + 1 ≠ w12.heap.size := (by omega); have m12b : w12.heap.size ≠ w.heap.size + 1 := (by omega); have n12c : w.heap.size + 1 + 1 ≠ w12.heap.size := (by omega); have m12c : w12.heap.size ≠ w.heap.size + 1 + 1 := (by omega); have n12d : w8.heap.size ≠ w12.heap.size := (by omega); have m12d : w12.heap.size ≠ w8.heap.size := (by omega))
                  | (go_at_call 15; refine (C7.out _ p11 c11 p12 c12 (sx12.below (by first | exact (Below.refl _ _) | exact ((Below.refl _ _)).alloc (Nat.le_refl _) _)) (sw12.below (by first | exact (Below.refl _ _) | exact ((Below.refl _ _)).alloc (Nat.le_refl _) _))).mono ?_; rintro e w13 ⟨⟨v, rfl, p13, c13, rfl, hs13⟩, hb13'⟩; have hb13 : Below w12.heap.size w12 w13 := (by first | exact hb13' | exact (((Below.refl _ _)).alloc (Nat.le_refl _) _).trans (hb13'.mono (by simp))); have lz13 := hb13.size; (try have bq := bq.below hb13); (try have bq : Box w13 w12.heap.size (.int .i64 0) (.int .i64 0) (.slice none 0 0) := (Box.new w12 (.int .i64 0) (.int .i64 0) (.slice none 0 0)).below hb13'); (try obtain ⟨z13a, z13b, z13c, y13a, y13b, y13c⟩ := bq.facts); (try have ll13 := bq.lt); clear hb13' C7; have bt13 := bt12.below hb13; have bu13 := bu12.below hb13; have bv13 := bv12.below hb13; have by13 := by12.below hb13; have bk13 := bk12.below hb13; have st13 := st12.below hb13; have su13 := su12.below hb13; have sv13 := sv12.below hb13; have sy13 := sy12.below hb13; have sA13 := sA12.below hb13; have hB13 := hB12.trans (hb13.mono hB12.size); obtain ⟨t13a, t13b, t13c, _, _, _⟩ := bt13.facts; obtain ⟨u13a, u13b, u13c, _, _, _⟩ := bu13.facts; obtain ⟨v13a, v13b, v13c, _, _, _⟩ := bv13.facts; obtain ⟨y13a, y13b, y13c, _, _, _⟩ := by13.facts; obtain ⟨k13a, k13b, k13c, _, _, _⟩ := bk13.facts; have lv13 := bv13.lt; have ly13 := by13.lt; have n13a : w.heap.size ≠ w13.heap.size := (by omega); have m13a : w13.heap.size ≠ w.heap.size := (by omega); have n13b : w.heap.size + 1 ≠ w13.heap.size := (by omega); have m13b : w13.heap.size ≠ w.heap.size + 1 := (by omega); have n13c : w.heap.size + 1 + 1 ≠ w13.heap.size := (by omega); have m13c : w13.heap.size ≠ w.heap.size + 1 + 1 := (by omega); have n13d : w8.heap.size ≠ w13.heap.size := (by omega); have m13d : w13.heap.size ≠ w8.heap.size := (by omega)))
              all_goals
                first
                  | (have bf : Box w13 w9.heap.size (.int .i64 0) (.int .i64 0) (.slice none 0 0) := bq; obtain ⟨w14, hwn, bn, sn, hbx, hbl⟩ := fill (c := c13) bf hs13 (by first | omega | (simp; done) | (simp; omega)))
                  | (have bf : Box w13 w10.heap.size (.int .i64 0) (.int .i64 0) (.slice none 0 0) := bq; obtain ⟨w14, hwn, bn, sn, hbx, hbl⟩ := fill (c := c13) bf hs13 (by first | omega | (simp; done) | (simp; omega)))
                  | (have bf : Box w13 w11.heap.size (.int .i64 0) (.int .i64 0) (.slice none 0 0) := bq; obtain ⟨w14, hwn, bn, sn, hbx, hbl⟩ := fill (c := c13) bf hs13 (by first | omega | (simp; done) | (simp; omega)))
                  | (have bf : Box w13 w12.heap.size (.int .i64 0) (.int .i64 0) (.slice none 0 0) := bq; obtain ⟨w14, hwn, bn, sn, hbx, hbl⟩ := fill (c := c13) bf hs13 (by first | omega | (simp; done) | (simp; omega)))
                  | (obtain ⟨w14, hwn, bn, sn, hbx, hbl⟩ := fill_new (c := c13) hs13)
                rw [hwn]
                clear hwn
                have bk14 := hbx _ _ _ _ (by have := bk9.lt; omega) bk13
                have hB14 := hbl w w.heap.size (by omega) hB13
                have h913 : Below w9.heap.size w9 w13 := ((hb10.trans (hb11.mono (by omega))).trans (hb12.mono (by omega))).trans (hb13.mono (by omega))
                have sA14 := sA9.below (hbl w9 w9.heap.size (by omega) h913)
                obtain ⟨k14a, k14b, k14c, _, _, _⟩ := bk14.facts
                obtain ⟨n14a, n14b, n14c, _, _, _⟩ := bn.facts
                clear hbx hbl h913 hb10 hb11 hb12 hb13 hs13 bk13 hB13
                go_wp2_with fail
                refine (C8.out _ p6 c6 p13 c13 sA14 sn).mono ?_
                rintro e w15 ⟨rfl, hb15⟩
                go_wp2_with fail
                go_ret
                exact ⟨rfl, hB14.trans (hb15.mono hB14.size)⟩
          · skip
            go_enter Tryd.func4, Tryd.ntmps4
            go_wp2_with fail
            refine (alive_any _).mono ?_
            rintro e w1 ⟨rfl, hb1⟩
            have bt1 := bt0.below hb1
            have bu1 := bu0.below hb1
            have bv1 := bv0.below hb1
            have hB1 := hB0.trans (hb1.mono (by simp; omega))
            obtain ⟨t1a, t1b, t1c, _, _, _⟩ := bt1.facts
            obtain ⟨u1a, u1b, u1c, _, _, _⟩ := bu1.facts
            obtain ⟨v1a, v1b, v1c, _, _, _⟩ := bv1.facts
            clear hb1 bt0 bu0 bv0 hB0
            go_wp2_with fail
            refine (rwrong_any f k n q cap (bound + 2) 9 _ (by omega) (by omega) (hs.below hB1)).mono ?_
            rintro e w2 ⟨rfl, hb2⟩
            have bt2 := bt1.below hb2
            have bu2 := bu1.below hb2
            have bv2 := bv1.below hb2
            have hB2 := hB1.trans (hb2.mono hB1.size)
            clear t1a t1b t1c u1a u1b u1c v1a v1b v1c hb2 bt1 bu1 bv1
            obtain ⟨t2a, t2b, t2c, _, _, _⟩ := bt2.facts
            obtain ⟨u2a, u2b, u2c, _, _, _⟩ := bu2.facts
            obtain ⟨v2a, v2b, v2c, _, _, _⟩ := bv2.facts
            rw [HTW.out]
            go_wp2_with fail
            refine (rwrong_any uf uk un uq ucap (bound + 1) 9 _ (by omega) (by omega) (us.below hB2)).mono ?_
            rintro e w3 ⟨rfl, hb3⟩
            have bt3 := bt2.below hb3
            have bu3 := bu2.below hb3
            have bv3 := bv2.below hb3
            have hB3 := hB2.trans (hb3.mono hB2.size)
            clear t2a t2b t2c u2a u2b u2c v2a v2b v2c hb3 bt2 bu2 bv2
            obtain ⟨t3a, t3b, t3c, _, _, _⟩ := bt3.facts
            obtain ⟨u3a, u3b, u3c, _, _, _⟩ := bu3.facts
            obtain ⟨v3a, v3b, v3c, _, _, _⟩ := bv3.facts
            rw [HUW.out]
            go_wp2_with fail
            refine (rwrong_any vf vk vn vq vcap (bound) 9 _ (by omega) (by omega) (vs.below hB3)).mono ?_
            rintro e w4 ⟨rfl, hb4⟩
            have bt4 := bt3.below hb4
            have bu4 := bu3.below hb4
            have bv4 := bv3.below hb4
            have hB4 := hB3.trans (hb4.mono hB3.size)
            clear t3a t3b t3c u3a u3b u3c v3a v3b v3c hb4 bt3 bu3 bv3
            obtain ⟨t4a, t4b, t4c, _, _, _⟩ := bt4.facts
            obtain ⟨u4a, u4b, u4c, _, _, _⟩ := bu4.facts
            obtain ⟨v4a, v4b, v4c, _, _, _⟩ := bv4.facts
            go_wp2_with fail
            go_ret
            exact ⟨rfl, hB4⟩
        · skip
          go_enter Tryd.func4, Tryd.ntmps4
          go_wp2_with fail
          refine (alive_any _).mono ?_
          rintro e w1 ⟨rfl, hb1⟩
          have bt1 := bt0.below hb1
          have bu1 := bu0.below hb1
          have bv1 := bv0.below hb1
          have hB1 := hB0.trans (hb1.mono (by simp; omega))
          obtain ⟨t1a, t1b, t1c, _, _, _⟩ := bt1.facts
          obtain ⟨u1a, u1b, u1c, _, _, _⟩ := bu1.facts
          obtain ⟨v1a, v1b, v1c, _, _, _⟩ := bv1.facts
          clear hb1 bt0 bu0 bv0 hB0
          go_wp2_with fail
          refine (rwrong_any f k n q cap (bound + 2) 9 _ (by omega) (by omega) (hs.below hB1)).mono ?_
          rintro e w2 ⟨rfl, hb2⟩
          have bt2 := bt1.below hb2
          have bu2 := bu1.below hb2
          have bv2 := bv1.below hb2
          have hB2 := hB1.trans (hb2.mono hB1.size)
          clear t1a t1b t1c u1a u1b u1c v1a v1b v1c hb2 bt1 bu1 bv1
          obtain ⟨t2a, t2b, t2c, _, _, _⟩ := bt2.facts
          obtain ⟨u2a, u2b, u2c, _, _, _⟩ := bu2.facts
          obtain ⟨v2a, v2b, v2c, _, _, _⟩ := bv2.facts
          rw [HTW.out]
          go_wp2_with fail
          refine (rwrong_any uf uk un uq ucap (bound + 1) 9 _ (by omega) (by omega) (us.below hB2)).mono ?_
          rintro e w3 ⟨rfl, hb3⟩
          have bt3 := bt2.below hb3
          have bu3 := bu2.below hb3
          have bv3 := bv2.below hb3
          have hB3 := hB2.trans (hb3.mono hB2.size)
          clear t2a t2b t2c u2a u2b u2c v2a v2b v2c hb3 bt2 bu2 bv2
          obtain ⟨t3a, t3b, t3c, _, _, _⟩ := bt3.facts
          obtain ⟨u3a, u3b, u3c, _, _, _⟩ := bu3.facts
          obtain ⟨v3a, v3b, v3c, _, _, _⟩ := bv3.facts
          go_wp2_with fail
          go_ret
          exact ⟨rfl, hB3⟩
      · skip
        go_enter Tryd.func4, Tryd.ntmps4
        go_wp2_with fail
        refine (alive_any _).mono ?_
        rintro e w1 ⟨rfl, hb1⟩
        have bt1 := bt0.below hb1
        have bu1 := bu0.below hb1
        have bv1 := bv0.below hb1
        have hB1 := hB0.trans (hb1.mono (by simp; omega))
        obtain ⟨t1a, t1b, t1c, _, _, _⟩ := bt1.facts
        obtain ⟨u1a, u1b, u1c, _, _, _⟩ := bu1.facts
        obtain ⟨v1a, v1b, v1c, _, _, _⟩ := bv1.facts
        clear hb1 bt0 bu0 bv0 hB0
        go_wp2_with fail
        refine (rwrong_any f k n q cap (bound + 2) 9 _ (by omega) (by omega) (hs.below hB1)).mono ?_
        rintro e w2 ⟨rfl, hb2⟩
        have bt2 := bt1.below hb2
        have bu2 := bu1.below hb2
        have bv2 := bv1.below hb2
        have hB2 := hB1.trans (hb2.mono hB1.size)
        clear t1a t1b t1c u1a u1b u1c v1a v1b v1c hb2 bt1 bu1 bv1
        obtain ⟨t2a, t2b, t2c, _, _, _⟩ := bt2.facts
        obtain ⟨u2a, u2b, u2c, _, _, _⟩ := bu2.facts
        obtain ⟨v2a, v2b, v2c, _, _, _⟩ := bv2.facts
        go_wp2_with fail
        go_ret
        exact ⟨rfl, hB2⟩
end Go.Proofs.YtcgpjihfligdbaaDoor
