/-
  The statement TopSwap: the walk.
-/
import Derived.Test.YthfjmcomhccbaaaGreatDoorT4m
import Derived.Test.YthfjmcomhccbaaaGreatDoorT8m
namespace Go.Proofs.YthfjmcomhccbaaaGreatDoor
open Go.RowKit Tmx Evx
set_option maxRecDepth 60000

section
variable {ka na kb nb : Int} {fa fb : F} {pa pb : Option Addr} {ca cb : Nat}
/-- A pair's terms, as a list in a new block. -/
theorem slo_pair {O : Nat → Prop} {w : World} (ha : SlO O w pa fa) (hb : SlO O w pb fb) (hO : O w.heap.size) (hca : len fa ≤ ca) (hcb : len fb ≤ cb) : SlO O (w.alloc (.cells #[.int .i64 14, .int .i64 0, .slice none 0 0, .int .i64 14, .int .i64 0, .slice none 0 0, .int .i64 ka, .int .i64 na, .slice pa (len fa) ca, .int .i64 kb, .int .i64 nb, .slice pb (len fb) cb] 30)) (some ⟨w.heap.size, 0, none⟩) (nd 14 0 .nil (nd 14 0 .nil (nd ka na fa (nd kb nb fb .nil)))) := by
  have hB : Below w.heap.size w (w.alloc (.cells #[.int .i64 14, .int .i64 0, .slice none 0 0, .int .i64 14, .int .i64 0, .slice none 0 0, .int .i64 ka, .int .i64 na, .slice pa (len fa) ca, .int .i64 kb, .int .i64 nb, .slice pb (len fb) cb] 30)) := (Below.refl _ _).alloc (Nat.le_refl _) _
  obtain ⟨b1, o1, h1, h2⟩ := ha.carry (w' := w.alloc (.cells #[.int .i64 14, .int .i64 0, .slice none 0 0, .int .i64 14, .int .i64 0, .slice none 0 0, .int .i64 ka, .int .i64 na, .slice pa (len fa) ca, .int .i64 kb, .int .i64 nb, .slice pb (len fb) cb] 30)) fun b o v _ hv => below_some hB _ _ _ hv
  obtain ⟨b2, o2, h3, h4⟩ := hb.carry (w' := w.alloc (.cells #[.int .i64 14, .int .i64 0, .slice none 0 0, .int .i64 14, .int .i64 0, .slice none 0 0, .int .i64 ka, .int .i64 na, .slice pa (len fa) ca, .int .i64 kb, .int .i64 nb, .slice pb (len fb) cb] 30)) fun b o v _ hv => below_some hB _ _ _ hv
  have hN := Blk.new w #[.int .i64 14, .int .i64 0, .slice none 0 0, .int .i64 14, .int .i64 0, .slice none 0 0, .int .i64 ka, .int .i64 na, .slice pa (len fa) ca, .int .i64 kb, .int .i64 nb, .slice pb (len fb) cb] 30
  refine ⟨w.heap.size, 0, fun _ => rfl, hO, by rw [hN.cell]; rfl, by rw [hN.cell]; rfl, ⟨none, 0, 0, ⟨0, Nat.le_refl _⟩, by rw [hN.cell]; rfl, fun h => absurd h (by simp [len]), trivial⟩,
    hO, by rw [hN.cell]; rfl, by rw [hN.cell]; rfl, ⟨none, 0, 0, ⟨0, Nat.le_refl _⟩, by rw [hN.cell]; rfl, fun h => absurd h (by simp [len]), trivial⟩,
    hO, by rw [hN.cell]; rfl, by rw [hN.cell]; rfl, ⟨pa, b1, o1, ⟨ca, hca⟩, by rw [hN.cell]; rfl, h1, h2⟩,
    hO, by rw [hN.cell]; rfl, by rw [hN.cell]; rfl, ⟨pb, b2, o2, ⟨cb, hcb⟩, by rw [hN.cell]; rfl, h3, h4⟩, trivial⟩
/-- How it stands behind a pair that was made: its box is B, its list R. -/
def Fin (W wc : World) (B R : Nat) (f : F) : Prop := Below W.heap.size W wc ∧ Box wc B (.int .i64 7) (.int .i64 0) (.slice (some ⟨R, 0, none⟩) 4 4) ∧ SlO (old wc) wc (some ⟨R, 0, none⟩) f
theorem slo_set {w : World} {B : Nat} {f : F} {q : Option Addr} (h : SlO (fun b => b ≠ B) w q f) (i : Nat) (v : Value) : SlO (fun b => b ≠ B) (w.setCell ⟨B, i, none⟩ v) q f :=
  h.carry fun b o u hb hu => by rw [World.cell?_setCell_far _ _ _ _ (by simpa using Ne.symm hb)]; exact hu
theorem finSet {W wb : World} {B : Nat} {x y z : Value} (h : Below W.heap.size W wb) (hB : W.heap.size ≤ B) (bx : Box wb B x y z) (ha : SlO (fun b => b ≠ B) wb pa fa) (hb : SlO (fun b => b ≠ B) wb pb fb) (hca : len fa ≤ ca) (hcb : len fb ≤ cb) :
    Fin W ((((wb.setCell ⟨B, 0, none⟩ (.int .i64 7)).setCell ⟨B, 1, none⟩ (.int .i64 0)).setCell ⟨B, 2, none⟩ (.slice (some ⟨wb.heap.size, 0, none⟩) 4 4)).alloc (.cells #[.int .i64 14, .int .i64 0, .slice none 0 0, .int .i64 14, .int .i64 0, .slice none 0 0, .int .i64 ka, .int .i64 na, .slice pa (len fa) ca, .int .i64 kb, .int .i64 nb, .slice pb (len fb) cb] 30)) B wb.heap.size (nd 14 0 .nil (nd 14 0 .nil (nd ka na fa (nd kb nb fb .nil)))) := by
  have h1 := slo_pair (slo_set (slo_set (slo_set ha 0 (.int .i64 7)) 1 (.int .i64 0)) 2 (.slice (some ⟨wb.heap.size, 0, none⟩) 4 4)) (slo_set (slo_set (slo_set hb 0 (.int .i64 7)) 1 (.int .i64 0)) 2 (.slice (some ⟨wb.heap.size, 0, none⟩) 4 4)) (by have := bx.lt; simp; omega) hca hcb (ka := ka) (na := na) (kb := kb) (nb := nb)
  have hs : (((wb.setCell ⟨B, 0, none⟩ (.int .i64 7)).setCell ⟨B, 1, none⟩ (.int .i64 0)).setCell ⟨B, 2, none⟩ (.slice (some ⟨wb.heap.size, 0, none⟩) 4 4)).heap.size = wb.heap.size := by rw [World.size_setCell, World.size_setCell, World.size_setCell]
  rw [hs] at h1
  exact ⟨(((h.setCell (p := ⟨B, 0, none⟩) hB _).setCell (p := ⟨B, 1, none⟩) hB _).setCell (p := ⟨B, 2, none⟩) hB _).alloc (by rw [hs]; exact h.size) _, (bx.set _ _ _).alloc _, h1.lt⟩
theorem finBox {W wb : World} (h : Below W.heap.size W wb) (ha : SlO (fun _ => True) wb pa fa) (hb : SlO (fun _ => True) wb pb fb) (hca : len fa ≤ ca) (hcb : len fb ≤ cb) :
    Fin W ((wb.alloc (.cells #[.int .i64 7, .int .i64 0, .slice (some ⟨wb.heap.size + 1, 0, none⟩) 4 4] 30)).alloc (.cells #[.int .i64 14, .int .i64 0, .slice none 0 0, .int .i64 14, .int .i64 0, .slice none 0 0, .int .i64 ka, .int .i64 na, .slice pa (len fa) ca, .int .i64 kb, .int .i64 nb, .slice pb (len fb) cb] 30)) wb.heap.size (wb.heap.size + 1) (nd 14 0 .nil (nd 14 0 .nil (nd ka na fa (nd kb nb fb .nil)))) := by
  have hB : Below wb.heap.size wb (wb.alloc (.cells #[.int .i64 7, .int .i64 0, .slice (some ⟨wb.heap.size + 1, 0, none⟩) 4 4] 30)) := (Below.refl _ _).alloc (Nat.le_refl _) _
  have h1 := slo_pair (ha.carry (w' := wb.alloc (.cells #[.int .i64 7, .int .i64 0, .slice (some ⟨wb.heap.size + 1, 0, none⟩) 4 4] 30)) fun b o v _ hv => below_some hB _ _ _ hv) (hb.carry (w' := wb.alloc (.cells #[.int .i64 7, .int .i64 0, .slice (some ⟨wb.heap.size + 1, 0, none⟩) 4 4] 30)) fun b o v _ hv => below_some hB _ _ _ hv) trivial hca hcb (ka := ka) (na := na) (kb := kb) (nb := nb)
  rw [World.size_alloc] at h1
  exact ⟨(h.alloc h.size _).alloc (by rw [World.size_alloc]; have := h.size; omega) _, (Box.new wb _ _ _).alloc _, h1.lt⟩
theorem finRow {W wb : World} (h : Below W.heap.size W wb) (ha : SlO (fun _ => True) wb pa fa) (hb : SlO (fun _ => True) wb pb fb) (hca : len fa ≤ ca) (hcb : len fb ≤ cb) :
    Fin W ((wb.alloc (.cells #[.int .i64 14, .int .i64 0, .slice none 0 0, .int .i64 14, .int .i64 0, .slice none 0 0, .int .i64 ka, .int .i64 na, .slice pa (len fa) ca, .int .i64 kb, .int .i64 nb, .slice pb (len fb) cb] 30)).alloc (.cells #[.int .i64 7, .int .i64 0, .slice (some ⟨wb.heap.size, 0, none⟩) 4 4] 30)) (wb.heap.size + 1) wb.heap.size (nd 14 0 .nil (nd 14 0 .nil (nd ka na fa (nd kb nb fb .nil)))) := by
  have h1 := slo_pair ha hb trivial hca hcb (ka := ka) (na := na) (kb := kb) (nb := nb)
  have hB : Below (wb.alloc (.cells #[.int .i64 14, .int .i64 0, .slice none 0 0, .int .i64 14, .int .i64 0, .slice none 0 0, .int .i64 ka, .int .i64 na, .slice pa (len fa) ca, .int .i64 kb, .int .i64 nb, .slice pb (len fb) cb] 30)).heap.size (wb.alloc (.cells #[.int .i64 14, .int .i64 0, .slice none 0 0, .int .i64 14, .int .i64 0, .slice none 0 0, .int .i64 ka, .int .i64 na, .slice pa (len fa) ca, .int .i64 kb, .int .i64 nb, .slice pb (len fb) cb] 30)) ((wb.alloc (.cells #[.int .i64 14, .int .i64 0, .slice none 0 0, .int .i64 14, .int .i64 0, .slice none 0 0, .int .i64 ka, .int .i64 na, .slice pa (len fa) ca, .int .i64 kb, .int .i64 nb, .slice pb (len fb) cb] 30)).alloc (.cells #[.int .i64 7, .int .i64 0, .slice (some ⟨wb.heap.size, 0, none⟩) 4 4] 30)) := (Below.refl _ _).alloc (Nat.le_refl _) _
  have hx := Box.new (wb.alloc (.cells #[.int .i64 14, .int .i64 0, .slice none 0 0, .int .i64 14, .int .i64 0, .slice none 0 0, .int .i64 ka, .int .i64 na, .slice pa (len fa) ca, .int .i64 kb, .int .i64 nb, .slice pb (len fb) cb] 30)) (.int .i64 7) (.int .i64 0) (.slice (some ⟨wb.heap.size, 0, none⟩) 4 4)
  rw [World.size_alloc] at hx
  exact ⟨(h.alloc h.size _).alloc (by rw [World.size_alloc]; have := h.size; omega) _, hx, (h1.carry fun b o v _ hv => below_some hB _ _ _ hv).lt⟩
end

theorem keep3 {w w' : World} {b c d : Nat} {x y z : Value} {i j k : Nat} (hb : Below w.heap.size w w') (h : w.cell? ⟨b, i, none⟩ = some x ∧ w.cell? ⟨c, j, none⟩ = some y ∧ w.cell? ⟨d, k, none⟩ = some z) :
    w'.cell? ⟨b, i, none⟩ = some x ∧ w'.cell? ⟨c, j, none⟩ = some y ∧ w'.cell? ⟨d, k, none⟩ = some z := ⟨below_some hb _ _ _ h.1, below_some hb _ _ _ h.2.1, below_some hb _ _ _ h.2.2⟩

theorem slo_call {w : World} {q : Option Addr} {f : F} {c : Nat} (d k n : Int) (h : SlO (fun _ => True) w q f) (hc : len f ≤ c) :
    SlO (fun _ => True) (w.alloc (.cells #[.int .i64 18, .int .i64 d, .slice none 0 0, .int .i64 k, .int .i64 n, .slice q (len f) c] 30)) (some ⟨w.heap.size, 0, none⟩) (callF d k n f) :=
  (slo_two (lo := 0) (c := 0) 18 d k n (SlO.nil (fresh 0) w none) (h.mono fun _ _ => Nat.zero_le _) (Nat.zero_le _) (Nat.le_refl _) hc).mono fun _ _ => trivial
theorem slo_over {w : World} {q : Option Addr} {f : F} (h : SlO (fun _ => True) w q f) (cs : Array Value) (T : TypeId) : SlO (fun _ => True) (w.alloc (.cells cs T)) q f :=
  h.carry fun _ _ _ _ hv => below_some ((Below.refl _ _).alloc (Nat.le_refl _) _) _ _ _ hv
theorem below_at {w w' : World} (hb : Below w.heap.size w w') {x : Addr} {y : Value} (h : w.cell? x = some y) : w'.cell? x = some y :=
  (World.cell?_of_block (w := w) (hb.block x.block (World.block_lt_of_cell? w x h))).trans h
theorem keep15 {w w' : World} {x0 x1 x2 x3 x4 x5 x6 x7 x8 x9 x10 x11 x12 x13 x14 : Addr} {y0 y1 y2 y3 y4 y5 y6 y7 y8 y9 y10 y11 y12 y13 y14 : Value} (hb : Below w.heap.size w w') (h : w.cell? x0 = some y0 ∧ w.cell? x1 = some y1 ∧ w.cell? x2 = some y2 ∧ w.cell? x3 = some y3 ∧ w.cell? x4 = some y4 ∧ w.cell? x5 = some y5 ∧ w.cell? x6 = some y6 ∧ w.cell? x7 = some y7 ∧ w.cell? x8 = some y8 ∧ w.cell? x9 = some y9 ∧ w.cell? x10 = some y10 ∧ w.cell? x11 = some y11 ∧ w.cell? x12 = some y12 ∧ w.cell? x13 = some y13 ∧ w.cell? x14 = some y14) :
    w'.cell? x0 = some y0 ∧ w'.cell? x1 = some y1 ∧ w'.cell? x2 = some y2 ∧ w'.cell? x3 = some y3 ∧ w'.cell? x4 = some y4 ∧ w'.cell? x5 = some y5 ∧ w'.cell? x6 = some y6 ∧ w'.cell? x7 = some y7 ∧ w'.cell? x8 = some y8 ∧ w'.cell? x9 = some y9 ∧ w'.cell? x10 = some y10 ∧ w'.cell? x11 = some y11 ∧ w'.cell? x12 = some y12 ∧ w'.cell? x13 = some y13 ∧ w'.cell? x14 = some y14 :=
  ⟨below_at hb h.1, below_at hb h.2.1, below_at hb h.2.2.1, below_at hb h.2.2.2.1, below_at hb h.2.2.2.2.1, below_at hb h.2.2.2.2.2.1, below_at hb h.2.2.2.2.2.2.1, below_at hb h.2.2.2.2.2.2.2.1, below_at hb h.2.2.2.2.2.2.2.2.1, below_at hb h.2.2.2.2.2.2.2.2.2.1, below_at hb h.2.2.2.2.2.2.2.2.2.2.1, below_at hb h.2.2.2.2.2.2.2.2.2.2.2.1, below_at hb h.2.2.2.2.2.2.2.2.2.2.2.2.1, below_at hb h.2.2.2.2.2.2.2.2.2.2.2.2.2.1, below_at hb h.2.2.2.2.2.2.2.2.2.2.2.2.2.2⟩

set_option maxHeartbeats 8000000 in
theorem swap_in (a b : Nat) (ha : a ≤ 12) (hb : b ≤ 12) (w : World) (hv : Vs w.heap.size w) :
    Calls Tryz.prog 4 #[.int .i64 (a : Int), .int .i64 (b : Int)] w fun e w' => e = .returned (.bool true) ∧ Below w.heap.size w w' := by
  have HA := alive_any w hv
  obtain ⟨x, z, n0, n1, n2, n3, lx, lz⟩ := swap_at ha hb
  have HN := (show Hid _ from And.intro n0 (And.intro n1 (And.intro n2 (And.intro n3 (And.intro lx (And.intro lz hv))))))
  have a0 : (0 : Int) ≤ (a : Int) := by omega
  have a1 : (a : Int) ≤ 12 := by omega
  have b0 : (0 : Int) ≤ (b : Int) := by omega
  have b1 : (b : Int) ≤ 12 := by omega
  clear n0 n1 n2 n3 lx lz hv
  go_enter Tryz.func4, Tryz.ntmps4
  go_wp2_with fail
  refine HA.mono ?_
  rintro e w1 ⟨rfl, hb1⟩
  have HL := loaded_any w1 (HN.out.2.2.2.2.2.2.up hb1)
  have HB := (show Hid _ from hb1)
  clear hb1 HA
  go_wp2_with fail
  refine HL.mono ?_
  rintro e w2 ⟨p, cap, rfl, hD, hcap, hb2⟩
  have HD := (show Hid _ from And.intro hD.at (And.intro hcap (HB.out.trans (hb2.mono HB.out.size))))
  clear hD hcap hb2 HL HB
  go_upto_region 8 with fail
  obtain ⟨W, hW, hbW, B1, B2, B3, hz⟩ := lay3 w2 #[.int .i64 14, .int .i64 0, .slice none 0 0] #[.int .i64 14, .int .i64 0, .slice none 0 0, .int .i64 14, .int .i64 0, .slice none 0 0] #[.int .i64 6, .int .i64 0, .slice (some ⟨w2.heap.size + 1, 0, none⟩) 2 2] 30 30 30
  rw [hW]
  have HZ := (show Hid _ from And.intro hW (And.intro hbW hz))
  clear hW hbW hz
  go_cut [9] from 9 (fun s9 wc => ∃ B R, s9 = .pointer (some ⟨B, 0, none⟩) ∧ Hid (Fin W wc B R (pairF a b)))
  case first =>
    obtain ⟨ka, na, fa, hfa⟩ : ∃ k n f, numX a = (k, n, f) := ⟨_, _, _, rfl⟩
    obtain ⟨kb, nb, fb, hfb⟩ : ∃ k n f, numX b = (k, n, f) := ⟨_, _, _, rfl⟩
    have HPF : Hid (pairF a b = nd 14 0 .nil (nd 14 0 .nil (nd ka na fa (nd kb nb fb .nil)))) := by show pairF a b = _; rw [pairF, hfa, hfb]
    have HNa : Hid (∀ w, Calls Tryz.prog 9 #[.int .i64 (a : Int)] w fun e w' => (∃ v, e = .returned v ∧ TmC w.heap.size w' v (ka, na, fa)) ∧ Below w.heap.size w w') := fun w => by rw [← hfa]; exact numeral_any a w (by omega)
    have HNb : Hid (∀ w, Calls Tryz.prog 9 #[.int .i64 (b : Int)] w fun e w' => (∃ v, e = .returned v ∧ TmC w.heap.size w' v (kb, nb, fb)) ∧ Below w.heap.size w w') := fun w => by rw [← hfb]; exact numeral_any b w (by omega)
    clear hfa hfb
    obtain ⟨x0, x1, x2, _, _, _⟩ := B1.three
    have hn := World.new_ne W _ x0
    go_region_held3 (fun w' => w'.cell? ⟨w2.heap.size, 0, none⟩ = some (.int .i64 14) ∧ w'.cell? ⟨w2.heap.size, 1, none⟩ = some (.int .i64 0) ∧ w'.cell? ⟨w2.heap.size, 2, none⟩ = some (.slice none 0 0)) (first | exact keep3 hbb (by assumption) | exact keep3 hba (by assumption) | go_keep | (refine ⟨?_, ?_, ?_⟩ <;> first | assumption | (apply keepA; assumption) | (apply keepA; apply keepA; assumption) | (apply keepA; apply keepA; apply keepA; assumption) | (apply keepA; apply keepA; apply keepA; apply keepA; assumption)))
      (first
        | (go_at_call 9; (with_reducible refine (HNa.out _).mono ?_); rintro e wa ⟨⟨v, hv, pa, ⟨ca, hca⟩, hve, hsa⟩, hba⟩; dsimp only at hve hca hsa; subst hve; subst hv; obtain ⟨s0, s1, s2⟩ := keep3 hba (by assumption); have hna := World.new_ne wa _ s0; try (have bxa : Box wa W.heap.size (.int .i64 0) (.int .i64 0) (.slice none 0 0) := (Box.new W.drew _ _ _).below hba))
        | (go_at_call 9; (with_reducible refine (HNb.out _).mono ?_); rintro e wb ⟨⟨v, hv, pb, ⟨cb, hcb⟩, hve, hsb⟩, hbb⟩; dsimp only at hve hcb hsb; subst hve; subst hv; obtain ⟨r0, r1, r2⟩ := keep3 hbb (by assumption); try (first | (have bxb := (Box.new wa _ _ _).below hbb; have lb := bxb.lt; obtain ⟨t0, t1, t2, t3, t4, t5⟩ := bxb.facts) | (have bxb := bxa.below hbb; have lb := bxb.lt; obtain ⟨t0, t1, t2, t3, t4, t5⟩ := bxb.facts))))
    all_goals (have hbW := undrew hba)
    · have haT : SlO (fun _ => True) wb pa fa := (hsa.mono (O' := fun _ => True) fun _ _ => trivial).carry fun b o v _ hv => below_some hbb _ _ _ hv
      have hF := finRow (hbW.trans (hbb.mono hbW.size)) haT (hsb.mono (O' := fun _ => True) fun _ _ => trivial) hca hcb (ka := ka) (na := na) (kb := kb) (nb := nb)
      rw [← HPF.out] at hF
      have HF := (show Hid _ from hF)
      clear haT hF
      go_wp2_with fail
      go_meet
      case rel => exact ⟨_, _, rfl, HF⟩
    · have haT : SlO (fun _ => True) wb pa fa := (hsa.mono (O' := fun _ => True) fun _ _ => trivial).carry fun b o v _ hv => below_some hbb _ _ _ hv
      have hF := finBox (hbW.trans (hbb.mono hbW.size)) haT (hsb.mono (O' := fun _ => True) fun _ _ => trivial) hca hcb (ka := ka) (na := na) (kb := kb) (nb := nb)
      rw [← HPF.out] at hF
      have HF := (show Hid _ from hF)
      clear haT hF
      go_wp2_with fail
      go_meet
      case rel => exact ⟨_, _, rfl, HF⟩
    · have hAl : Below wa.heap.size wa (wa.alloc (.cells #[.int .i64 0, .int .i64 0, .slice none 0 0] 30)) := (Below.refl _ _).alloc (Nat.le_refl _) _
      have hab : Below wa.heap.size wa wb := hAl.trans (hbb.mono hAl.size)
      have hsz : (wa.alloc (.cells #[.int .i64 0, .int .i64 0, .slice none 0 0] 30)).heap.size = wa.heap.size + 1 := World.size_alloc _ _
      have haT : SlO (fun b => b ≠ wa.heap.size) wb pa fa := (hsa.lt.mono (O' := fun b => b ≠ wa.heap.size) fun b (h : b < wa.heap.size) => show b ≠ wa.heap.size by omega).carry fun b o v _ hv => below_some hab _ _ _ hv
      have hF := finSet (hbW.trans (hab.mono hbW.size)) hbW.size bxb haT (hsb.mono (O' := fun b => b ≠ wa.heap.size) fun b (h : (wa.alloc _).heap.size ≤ b) => show b ≠ wa.heap.size by rw [hsz] at h; omega) hca hcb (ka := ka) (na := na) (kb := kb) (nb := nb)
      rw [← HPF.out] at hF
      have HF := (show Hid _ from hF)
      clear haT hF hAl hab hsz
      go_wp2_with fail
      go_meet
      case rel => exact ⟨_, _, rfl, HF⟩
    · have hAl : Below W.heap.size W (W.alloc (.cells #[.int .i64 0, .int .i64 0, .slice none 0 0] 30)) := (Below.refl _ _).alloc (Nat.le_refl _) _
      have hsz : (W.alloc (.cells #[.int .i64 0, .int .i64 0, .slice none 0 0] 30)).heap.size = W.heap.size + 1 := World.size_alloc _ _
      have hWa : Below W.heap.size W wa := hAl.trans (hbW.mono hAl.size)
      have haT : SlO (fun b => b ≠ W.heap.size) wb pa fa := (hsa.mono (O' := fun b => b ≠ W.heap.size) fun b (h : (W.alloc _).heap.size ≤ b) => show b ≠ W.heap.size by rw [hsz] at h; omega).carry fun b o v _ hv => below_some hbb _ _ _ hv
      have hF := finSet (hWa.trans (hbb.mono hWa.size)) (Nat.le_refl _) bxb haT (hsb.mono (O' := fun b => b ≠ W.heap.size) fun b (h : wa.heap.size ≤ b) => show b ≠ W.heap.size by have := bxa.lt; omega) hca hcb (ka := ka) (na := na) (kb := kb) (nb := nb)
      rw [← HPF.out] at hF
      have HF := (show Hid _ from hF)
      clear haT hF hAl hsz hWa
      go_wp2_with fail
      go_meet
      case rel => exact ⟨_, _, rfl, HF⟩
  case rest =>
    obtain ⟨B, R, rfl, HF⟩ := hcut
    obtain ⟨hF1, hF2, hF3⟩ := HF.out
    obtain ⟨x0, x1, x2, _, _, _⟩ := hF2.facts
    have HX := (show Hid _ from And.intro hF1 (And.intro hF2 (And.intro hF3 (And.intro B1 (And.intro B2 B3)))))
    clear hF1 hF2 hF3 HF B1 B2 B3
    go_upto_region 11 with fail
    obtain ⟨U, hU, hbU, C1, C2, C3, C4, hzU⟩ := lay4 wc #[.int .i64 18, .int .i64 2, .slice none 0 0, .int .i64 7, .int .i64 0, .slice (some ⟨R, 0, none⟩) 4 4] #[.int .i64 5, .int .i64 0, .slice (some ⟨wc.heap.size, 0, none⟩) 2 2] #[.int .i64 18, .int .i64 2, .slice none 0 0, .int .i64 5, .int .i64 0, .slice (some ⟨wc.heap.size, 0, none⟩) 2 2] #[.int .i64 5, .int .i64 0, .slice (some ⟨wc.heap.size + 1 + 1, 0, none⟩) 2 2] 30 30 30 30
    obtain ⟨hF1, hF2, hF3, B1, B2, B3⟩ := HX.out
    have hWU : Below W.heap.size W U := hF1.trans (hbU.mono hF1.size)
    have h2U : Below w2.heap.size w2 U := HZ.out.2.1.trans (hWU.mono HZ.out.2.1.size)
    have hVU : Vs U.heap.size U := (HN.out.2.2.2.2.2.2).up (HD.out.2.2.trans (h2U.mono HD.out.2.2.size))
    have hDU : DlAt U p sumsD := HD.out.1.below h2U
    have hsig : SlO (old U) U (some ⟨w2.heap.size + 1, 0, none⟩) sigF := by
      refine (SlO.lt (O := fun _ => True) (w := W) ?_).below hWU
      exact ⟨w2.heap.size + 1, 0, fun _ => rfl, trivial, by rw [B2.cell]; rfl, by rw [B2.cell]; rfl, ⟨none, 0, 0, ⟨0, Nat.le_refl _⟩, by rw [B2.cell]; rfl, fun h => absurd h (by simp [len]), trivial⟩,
        trivial, by rw [B2.cell]; rfl, by rw [B2.cell]; rfl, ⟨none, 0, 0, ⟨0, Nat.le_refl _⟩, by rw [B2.cell]; rfl, fun h => absurd h (by simp [len]), trivial⟩, trivial⟩
    have hp1 : SlO (fun _ => True) wc (some ⟨R, 0, none⟩) (pairF a b) := hF3.mono fun _ _ => trivial
    have ho1 := slo_call (c := 4) 2 7 0 hp1 (Nat.le_refl 4)
    have ho2 := slo_over ho1 #[.int .i64 5, .int .i64 0, .slice (some ⟨wc.heap.size, 0, none⟩) 2 2] 30
    have ht1 := slo_call (c := 2) 2 5 0 ho2 (Nat.le_refl 2)
    rw [World.size_alloc, World.size_alloc] at ht1
    have ht2 := slo_over ht1 #[.int .i64 5, .int .i64 0, .slice (some ⟨wc.heap.size + 1 + 1, 0, none⟩) 2 2] 30
    have ho3 := slo_over (slo_over ho2 #[.int .i64 18, .int .i64 2, .slice none 0 0, .int .i64 5, .int .i64 0, .slice (some ⟨wc.heap.size, 0, none⟩) 2 2] 30) #[.int .i64 5, .int .i64 0, .slice (some ⟨wc.heap.size + 1 + 1, 0, none⟩) 2 2] 30
    have hoU : SlO (old U) U (some ⟨wc.heap.size, 0, none⟩) (onceF a b) := by rw [← hU]; exact ho3.lt
    have htU : SlO (old U) U (some ⟨wc.heap.size + 1 + 1, 0, none⟩) (twiceF a b) := by rw [← hU]; exact ht2.lt
    have hpU : SlO (old U) U (some ⟨R, 0, none⟩) (pairF a b) := hF3.below hbU
    rw [hU]
    have HS1 : Hid (∀ w', Below U.heap.size U w' → Calls Tryz.prog 10 #[.slice p 4 cap, .agg #[.int .i64 5, .int .i64 0, .slice (some ⟨wc.heap.size, 0, none⟩) 2 2], .agg #[.int .i64 6, .int .i64 0, .slice (some ⟨w2.heap.size + 1, 0, none⟩) 2 2]] w' fun e w'' => e = .returned (.string ⟨x.toArray⟩) ∧ Below w'.heap.size w' w'') := fun w' hb =>
      show_decls 60 400 8 (by decide) sumsD p _ _ cap 2 2 4 5 0 6 0 (onceF a b) sigF x w' (hVU.up hb) rfl (hDU.below hb) sums_kinds (by decide) (Nat.le_refl 2) (hoU.below hb) (Nat.le_refl 2) (hsig.below hb) (by decide) (by decide) HN.out.1 HN.out.2.2.2.2.1
    have HS2 : Hid (∀ w' q, Below U.heap.size U w' → SlO (old w') w' q (pairF b a) → Calls Tryz.prog 10 #[.slice p 4 cap, .agg #[.int .i64 7, .int .i64 0, .slice q 4 4], .agg #[.int .i64 6, .int .i64 0, .slice (some ⟨w2.heap.size + 1, 0, none⟩) 2 2]] w' fun e w'' => e = .returned (.string ⟨x.toArray⟩) ∧ Below w'.heap.size w' w'') := fun w' q hb hq =>
      show_decls 60 400 8 (by decide) sumsD p _ _ cap 4 2 4 7 0 6 0 (pairF b a) sigF x w' (hVU.up hb) rfl (hDU.below hb) sums_kinds (by decide) (Nat.le_refl 4) hq (Nat.le_refl 2) (hsig.below hb) (by decide) (by decide) HN.out.2.1 HN.out.2.2.2.2.1
    have HS3 : Hid (∀ w', Below U.heap.size U w' → Calls Tryz.prog 10 #[.slice p 4 cap, .agg #[.int .i64 5, .int .i64 0, .slice (some ⟨wc.heap.size + 1 + 1, 0, none⟩) 2 2], .agg #[.int .i64 6, .int .i64 0, .slice (some ⟨w2.heap.size + 1, 0, none⟩) 2 2]] w' fun e w'' => e = .returned (.string ⟨z.toArray⟩) ∧ Below w'.heap.size w' w'') := fun w' hb =>
      show_decls 60 400 8 (by decide) sumsD p _ _ cap 2 2 4 5 0 6 0 (twiceF a b) sigF z w' (hVU.up hb) rfl (hDU.below hb) sums_kinds (by decide) (Nat.le_refl 2) (htU.below hb) (Nat.le_refl 2) (hsig.below hb) (by decide) (by decide) HN.out.2.2.1 HN.out.2.2.2.2.2.1
    have HS4 : Hid (∀ w', Below U.heap.size U w' → Calls Tryz.prog 10 #[.slice p 4 cap, .agg #[.int .i64 7, .int .i64 0, .slice (some ⟨R, 0, none⟩) 4 4], .agg #[.int .i64 6, .int .i64 0, .slice (some ⟨w2.heap.size + 1, 0, none⟩) 2 2]] w' fun e w'' => e = .returned (.string ⟨z.toArray⟩) ∧ Below w'.heap.size w' w'') := fun w' hb =>
      show_decls 60 400 8 (by decide) sumsD p _ _ cap 4 2 4 7 0 6 0 (pairF a b) sigF z w' (hVU.up hb) rfl (hDU.below hb) sums_kinds (by decide) (Nat.le_refl 4) (hpU.below hb) (Nat.le_refl 2) (hsig.below hb) (by decide) (by decide) HN.out.2.2.2.1 HN.out.2.2.2.2.2.1
    obtain ⟨ka, na, fa, hfa⟩ : ∃ k n f, numX a = (k, n, f) := ⟨_, _, _, rfl⟩
    obtain ⟨kb, nb, fb, hfb⟩ : ∃ k n f, numX b = (k, n, f) := ⟨_, _, _, rfl⟩
    have HPF : Hid (pairF b a = nd 14 0 .nil (nd 14 0 .nil (nd kb nb fb (nd ka na fa .nil)))) := by show pairF b a = _; rw [pairF, hfa, hfb]
    have HNa : Hid (∀ w, Calls Tryz.prog 9 #[.int .i64 (a : Int)] w fun e w' => (∃ v, e = .returned v ∧ TmC w.heap.size w' v (ka, na, fa)) ∧ Below w.heap.size w w') := fun w => by rw [← hfa]; exact numeral_any a w (by omega)
    have HNb : Hid (∀ w, Calls Tryz.prog 9 #[.int .i64 (b : Int)] w fun e w' => (∃ v, e = .returned v ∧ TmC w.heap.size w' v (kb, nb, fb)) ∧ Below w.heap.size w w') := fun w => by rw [← hfb]; exact numeral_any b w (by omega)
    have HEND : Hid (Below w.heap.size w U) := HD.out.2.2.trans (h2U.mono HD.out.2.2.size)
    obtain ⟨i0, i1, i2, _, _, _⟩ := (B1.below hWU).three
    obtain ⟨j0, j1, j2, _, _, _⟩ := (B3.below hWU).three
    obtain ⟨k0, k1, k2, _, _, _⟩ := (hF2.below hbU).facts
    obtain ⟨l0, l1, l2, _, _, _⟩ := C2.three
    obtain ⟨m0, m1, m2, _, _, _⟩ := C4.three
    clear hfa hfb hU hbU C1 C2 C3 C4 hzU hF1 hF2 hF3 B1 B2 B3 hWU h2U hVU hDU hsig hp1 ho1 ho2 ht1 ht2 ho3 hoU htU hpU HX HZ HD x0 x1 x2
    go_region_held3 (fun w' => w'.cell? ⟨w2.heap.size, 0, none⟩ = some (.int .i64 14) ∧ w'.cell? ⟨w2.heap.size, 1, none⟩ = some (.int .i64 0) ∧ w'.cell? ⟨w2.heap.size, 2, none⟩ = some (.slice none 0 0) ∧ w'.cell? ⟨w2.heap.size + 1 + 1, 0, none⟩ = some (.int .i64 6) ∧ w'.cell? ⟨w2.heap.size + 1 + 1, 1, none⟩ = some (.int .i64 0) ∧ w'.cell? ⟨w2.heap.size + 1 + 1, 2, none⟩ = some (.slice (some ⟨w2.heap.size + 1, 0, none⟩) 2 2) ∧ w'.cell? ⟨B, 0, none⟩ = some (.int .i64 7) ∧ w'.cell? ⟨B, 1, none⟩ = some (.int .i64 0) ∧ w'.cell? ⟨B, 2, none⟩ = some (.slice (some ⟨R, 0, none⟩) 4 4) ∧ w'.cell? ⟨wc.heap.size + 1, 0, none⟩ = some (.int .i64 5) ∧ w'.cell? ⟨wc.heap.size + 1, 1, none⟩ = some (.int .i64 0) ∧ w'.cell? ⟨wc.heap.size + 1, 2, none⟩ = some (.slice (some ⟨wc.heap.size, 0, none⟩) 2 2) ∧ w'.cell? ⟨wc.heap.size + 1 + 1 + 1, 0, none⟩ = some (.int .i64 5) ∧ w'.cell? ⟨wc.heap.size + 1 + 1 + 1, 1, none⟩ = some (.int .i64 0) ∧ w'.cell? ⟨wc.heap.size + 1 + 1 + 1, 2, none⟩ = some (.slice (some ⟨wc.heap.size + 1 + 1, 0, none⟩) 2 2)) (first | exact keep15 hv6 (by assumption) | exact keep15 hv5 (by assumption) | exact keep15 hv4 (by assumption) | exact keep15 hv3 (by assumption) | exact keep15 hv2 (by assumption) | exact keep15 hv1 (by assumption) | exact keep15 ((Below.refl _ _).alloc (Nat.le_refl _) _) (by assumption) | go_keep | fail)
      (first
        | (go_at_call 10; (with_reducible refine (HS1.out _ ((Below.refl _ _).drew)).mono ?_); rintro e v1 ⟨rfl, hv1⟩; have HV1 : Below U.heap.size U v1 := undrew hv1)
        | (go_at_call 9; (with_reducible refine (HNb.out _).mono ?_); rintro e v2 ⟨⟨v, hv, pb, ⟨cb, hcb⟩, hve, hsb⟩, hv2⟩; dsimp only at hve hcb hsb; subst hve; subst hv; have HV2 := HV1.trans (hv2.mono HV1.size))
        | (go_at_call 9; (with_reducible refine (HNa.out _).mono ?_); rintro e v3 ⟨⟨v, hv, pa, ⟨ca, hca⟩, hve, hsa⟩, hv3⟩; dsimp only at hve hca hsa; subst hve; subst hv; have HV3 := HV2.trans (hv3.mono HV2.size);
            have hrow := slo_pair (O := fun _ => True) ((hsb.mono (O' := fun _ => True) fun _ _ => trivial).carry fun _ _ _ _ hv => below_some hv3 _ _ _ hv) (hsa.mono (O' := fun _ => True) fun _ _ => trivial) trivial hcb hca (ka := kb) (na := nb) (kb := ka) (nb := na); rw [← HPF.out] at hrow; have hrl := hrow.lt; clear hrow)
        | (go_at_call 10; (with_reducible refine (HS2.out _ _ (HV3.alloc HV3.size _) hrl).mono ?_); rintro e v4 ⟨rfl, hv4⟩; have HV4 := (HV3.alloc HV3.size _).trans (hv4.mono (HV3.alloc HV3.size _).size))
        | (go_at_call 10; (with_reducible refine (HS3.out _ HV4).mono ?_); rintro e v5 ⟨rfl, hv5⟩; have HV5 := HV4.trans (hv5.mono HV4.size))
        | (go_at_call 10; (with_reducible refine (HS4.out _ HV5).mono ?_); rintro e v6 ⟨rfl, hv6⟩; have HV6 := HV5.trans (hv6.mono HV5.size))
        | fail)
    have HE := (show Hid _ from HEND.out.trans (HV6.mono HEND.out.size))
    clear HV1 HV2 HV3 HV4 HV5 HV6
    go_wp2_with fail
    refine bodyPost_ret (v := .bool true) (by simp [results, Tryz.results4, go_sem]) rfl ⟨rfl, HE.out⟩

/-- Where a number is too great, or below nought. -/
theorem swap_out (a b : Int) (h : ¬ (0 ≤ a ∧ a ≤ 12 ∧ 0 ≤ b ∧ b ≤ 12)) (w : World) (hv : Vs w.heap.size w) :
    Calls Tryz.prog 4 #[.int .i64 a, .int .i64 b] w fun e w' => e = .returned (.bool true) ∧ Below w.heap.size w w' := by
  have HA := alive_any w hv
  have key : ((decide (a < 0) || decide (12 < a)) || (decide (b < 0) || decide (12 < b))) = true := by
    simp only [Bool.or_eq_true, decide_eq_true_eq]
    omega
  clear hv
  by_cases c0 : a < 0
  all_goals by_cases c1 : 12 < a
  all_goals by_cases c2 : b < 0
  all_goals by_cases c3 : 12 < b
  all_goals first
    | (exfalso; omega)
    | (clear key h
       go_enter Tryz.func4, Tryz.ntmps4
       go_wp2_with fail
       refine HA.mono ?_
       rintro e w1 ⟨rfl, hb1⟩
       have HB := (show Hid _ from hb1)
       clear hb1 HA
       go_wp2_with fail
       refine bodyPost_ret (v := .bool true) (by simp [results, Tryz.results4, go_sem]) rfl ⟨rfl, HB.out⟩)

theorem topSwap_any (a b : Int) (w : World) (hv : Vs w.heap.size w) : Calls Tryz.prog 4 #[.int .i64 a, .int .i64 b] w fun e w' => e = .returned (.bool true) ∧ Below w.heap.size w w' := by
  by_cases h : 0 ≤ a ∧ a ≤ 12 ∧ 0 ≤ b ∧ b ≤ 12
  · obtain ⟨m, rfl⟩ := Int.eq_ofNat_of_zero_le h.1
    obtain ⟨n, rfl⟩ := Int.eq_ofNat_of_zero_le h.2.2.1
    exact swap_in m n (by omega) (by omega) w hv
  · exact swap_out a b h w hv
end Go.Proofs.YthfjmcomhccbaaaGreatDoor
