/-
  Contracts: what half and count do with what they asked for.
-/
/-
  Contracts: what count does with the number.
-/
import Derived.Test.YthfjmcomhccbaaaGreatDoorE9m
namespace Go.Proofs.YthfjmcomhccbaaaGreatDoor
open Go.RowKit Tmx Evx
set_option maxRecDepth 60000

theorem NxP.weak {g : Gh} {w : World} {v : V} {to : Value} {B : Nat} {D : World → Nat → Prop} {e : Ending} {w' : World} (h : NxP g w v to B D e w') : NxP g w v to B TT e w' := by
  obtain ⟨g', c, fi, ca, p, he, hs, hC⟩ := h
  exact ⟨g', c, fi, ca, p, he, hs, hC.weak⟩
theorem NxP.more {g : Gh} {w : World} {v : V} {to : Value} {B B' : Nat} {D : World → Nat → Prop} {e : Ending} {w' : World} (hB : B ≤ B') (h : NxP g w v to B D e w') : NxP g w v to B' D e w' := by
  obtain ⟨g', c, fi, ca, p, he, hs, hC⟩ := h
  exact ⟨g', c, fi, ca, p, he, hs, hC.more hB⟩
theorem Inv.vo {g : Gh} {w : World} (hi : Inv g w) {q : Nat} {v : V} (h : g.v q = some v) : g.o q := by
  obtain ⟨_, _, k, _⟩ := hi.v q v h
  exact k.1

set_option maxHeartbeats 2000000 in
theorem half1_any (s B : Nat) (hD : DoingP s B) (qp qv bi bt bv c i : Nat) (fi ca : Array Value) (vp va v : V) (g : Gh) (w : World) (hin : Inv g w) (hvp : g.v qp = some vp) (hbi : BlkO g w bi #[.int .i64 (i : Int)] 3) (hbv : BlkO g w bv #[ptr qv] 62) (hva : g.v qv = some va) (hbt : BlkO g w bt #[.func (.func c) fi ca] 79) (hi4 : i < 4)
    (hK : (if vp.is 7 4 then (match plainOf vp.args i with | some x => ev s x | none => none) else some va) = some v) :
    Calls Tryz.prog 84 #[ptr qp, ptr bi, ptr bt, ptr bv] w (NxP g w v (.func (.func c) fi ca) (B + 2) TT) := by
  obtain ⟨W, hW, hb, R, hz⟩ := lay1 w #[.nilFunc, .pointer none] 81
  have hs0 := Ste.below hin hb
  have hm0 := hs0.mor hin
  have HI := is_any qp vp 7 4 g W hs0.inv hvp
  obtain ⟨bi0, _⟩ := (hbi.along hm0).2.one
  obtain ⟨bv0, _⟩ := (hbv.along hm0).2.one
  obtain ⟨bt0, _⟩ := (hbt.along hm0).2.one
  obtain ⟨r0, r1, r2, r3⟩ := R.two
  have HR : Hid (g.l w.heap.size = none ∧ ¬ g.o w.heap.size ∧ Blk W w.heap.size #[.nilFunc, .pointer none] 81) := ⟨hin.l_new (Nat.le_refl _), hin.o_new (Nat.le_refl _), R⟩
  have HS : Hid (Ste g w g W) := hs0
  unfold ptr at *
  cases hf : vp.is 7 4
  · rw [hf] at HI hK
    simp only [Bool.false_eq_true, if_false, Option.some.injEq] at hK
    subst hK
    have hR2 := R.set2 (.func (.func c) fi ca) (.pointer (some ⟨qv, 0, none⟩))
    obtain ⟨s0, s1, _, _⟩ := hR2.two
    have HF : Hid (NxP g w va (.func (.func c) fi ca) (B + 2) TT (.returned (.agg #[.func (.func c) fi ca, .pointer (some ⟨qv, 0, none⟩)])) ((W.setCell ⟨w.heap.size, 0, none⟩ (.func (.func c) fi ca)).setCell ⟨w.heap.size, 1, none⟩ (.pointer (some ⟨qv, 0, none⟩)))) :=
      nx_here (B + 2) (Ste.set2 HS.out (Nat.le_refl _) HR.out.1 HR.out.2.1 _ _) hva
    clear hin hvp hbi hbv hva hbt hs0 hm0 hD hb hR2 R hf
    go_enter Tryz.func84, Tryz.ntmps84
    go_wp2_with (first | (refine HI.mono ?_; rintro e w1 ⟨rfl, rfl⟩))
    refine bodyPost_ret (v := .agg #[.func (.func c) fi ca, .pointer (some ⟨qv, 0, none⟩)]) (by simp [results, Tryz.results84, go_sem, s0, s1]) rfl HF.out
  · rw [hf] at HI hK
    simp only [if_true] at hK
    obtain ⟨hfk, hfl⟩ := Nd.is_iff hf
    obtain ⟨x, hx⟩ : ∃ x, plainOf vp.args i = some x := by
      cases h : plainOf vp.args i with
      | none => rw [h] at hK; cases hK
      | some x => exact ⟨x, rfl⟩
    rw [hx] at hK
    simp only at hK
    obtain ⟨pf, capf, f0, f1, f2, hfa⟩ := (hs0.inv.v qp vp hvp).cells
    obtain ⟨bf, fx, fu, rfl, hof, hfx, _, hA⟩ := hfa.at (plainOf_some hx)
    obtain ⟨⟨bx, rfl, hbx⟩, _⟩ := hA.plain
    have hd0 := Ste.drew hs0.inv
    have HA : Calls Tryz.prog 29 #[.pointer (some ⟨bx, 0, none⟩), .func (.func c) fi ca] W.drew (NxP g W.drew v (.func (.func c) fi ca) (B + 2) TT) :=
      (ask_any s B hD bx c fi ca x v g W.drew hd0.inv hbx hK).mono fun e w' h => h.weak
    have hoqp := hs0.inv.vo hvp
    have HO : Hid ((g.o qp ∧ g.o bf ∧ g.o bi ∧ g.o bt) ∧ Ste g W g W.drew) := ⟨⟨hoqp, hof, hbi.1, hbt.1⟩, hd0⟩
    have m1 : w.heap.size ≠ qp := fun e => HR.out.2.1 (e ▸ hoqp)
    have m3 : w.heap.size ≠ bf := fun e => HR.out.2.1 (e ▸ hof)
    have m5 : w.heap.size ≠ bi := fun e => HR.out.2.1 (e ▸ hbi.1)
    have m6 : w.heap.size ≠ bt := fun e => HR.out.2.1 (e ▸ hbt.1)
    rw [hfl] at f2
    rw [Nat.mul_comm] at hfx
    have i1 : (0 : Int) ≤ (i : Int) := by omega
    have i2 : (i : Int) < 4 := by omega
    clear hin hvp hbi hbv hva hbt hs0 hm0 hD hb R hf hfk hfl hx hK f0 f1 hfa hof hbx hd0 hA hoqp hi4 bv0
    go_enter Tryz.func84, Tryz.ntmps84
    go_wp2_with (first | (refine HI.mono ?_; rintro e w1 ⟨rfl, rfl⟩))
    go_region_held3 (fun w' => w'.cell? ⟨qp, 2, none⟩ = some (.slice (some ⟨bf, 0, none⟩) 4 capf) ∧ w'.cell? ⟨bf, i * 2, none⟩ = some (.pointer (some ⟨bx, 0, none⟩)) ∧ w'.cell? ⟨bi, 0, none⟩ = some (.int .i64 (i : Int)) ∧ w'.cell? ⟨bt, 0, none⟩ = some (.func (.func c) fi ca)) (go_keep)
      (first
        | (go_at_call 29; refine HA.mono ?_; rintro e w3 ⟨g3, c4, fi4, ca4, p4, rfl, hs4, hC4⟩; have hm4 := hs4.mor HO.out.2.inv; have e1 := hm4.put HO.out.1.1 f2; have e2 := hm4.put HO.out.1.2.1 hfx; have e3 := hm4.put HO.out.1.2.2.1 bi0; have e4 := hm4.put HO.out.1.2.2.2 bt0; have HT : Hid (Ste g w1 g3 w3) := HO.out.2.trans hs4; have HR3 := HR.out.2.2.of_eq (HT.out.keep.block _ HR.out.2.2.lt HR.out.1); obtain ⟨q0, q1, q2, q3⟩ := HR3.two))
    obtain ⟨u1, u2, _⟩ := nx_set HS.out HT.out hC4 (Nat.le_refl _) HR.out.2.2.lt HR.out.1 HR.out.2.1
    obtain ⟨s0, s1, _, _⟩ := (HR3.set2 (.func (.func c4) fi4 ca4) (.pointer p4)).two
    have HF : Hid (NxP g w v (.func (.func c) fi ca) (B + 2) TT (.returned (.agg #[.func (.func c4) fi4 ca4, .pointer p4])) ((w3.setCell ⟨w.heap.size, 0, none⟩ (.func (.func c4) fi4 ca4)).setCell ⟨w.heap.size, 1, none⟩ (.pointer p4))) := ⟨g3, c4, fi4, ca4, p4, rfl, u1, u2⟩
    go_wp2_with fail
    refine bodyPost_ret (v := .agg #[.func (.func c4) fi4 ca4, .pointer p4]) (by simp [results, Tryz.results84, go_sem, s0, s1]) rfl HF.out
end Go.Proofs.YthfjmcomhccbaaaGreatDoor

namespace Go.Proofs.YthfjmcomhccbaaaGreatDoor
open Go.RowKit Tmx Evx
set_option maxRecDepth 60000

theorem row2 {g : Gh} {w : World} {b bx by_ : Nat} {x y : Th} (h : Blk w b #[.pointer (some ⟨bx, 0, none⟩), .pointer (some ⟨by_, 0, none⟩)] 43) (hx : g.l bx = some x) (hy : g.l by_ = some y) : RowL g w (some ⟨b, 0, none⟩) [x, y] := fun _ => ⟨b, _, rfl, h, fun i t ht => by
  match i, ht with
  | 0, ht => obtain rfl := Option.some.inj ht; exact ⟨_, rfl, bx, rfl, hx⟩
  | 1, ht => obtain rfl := Option.some.inj ht; exact ⟨_, rfl, by_, rfl, hy⟩
  | i + 2, ht => simp at ht⟩
theorem ArIs.fn {g : Gh} {w : World} {x u : Value} {a : Ar} {l : List Th} {t : Th} (h : ArIs g w x u a) (ha : appl a l = some t) : ∃ c ca, u = .func (.func c) #[] ca := by
  unfold ArIs at h
  split at h
  · simp [appl] at ha
  · obtain ⟨_, bi, bm, bt, e', _⟩ := h; exact ⟨_, _, e'⟩
  · obtain ⟨_, bm, bl, bt, pm, lb, p, e', _⟩ := h; exact ⟨_, _, e'⟩
  · exact h.elim

set_option maxHeartbeats 4000000 in
theorem count1_any (s B : Nat) (hD : DoingP s B) (qx qr br bt c : Nat) (fi ca : Array Value) (vx vr v : V) (g : Gh) (w : World) (hin : Inv g w) (hvx : g.v qx = some vx) (hbr : BlkO g w br #[ptr qr] 62) (hvr : g.v qr = some vr) (hbt : BlkO g w bt #[.func (.func c) fi ca] 79)
    (hK : (if vx.is 15 0 then (match plainOf vr.args 1 with | some z => ev s z | none => none)
      else if vx.is 16 1 then (if shaped vr.args = true then (match plainOf vx.args 0 with
        | some n => (match underOf vr.args 2 [n, .came (lessOf vr n)] with | some d => ev s d | none => none)
        | none => none) else none)
      else some vr) = some v) :
    Calls Tryz.prog 85 #[ptr qx, ptr br, ptr bt] w (NxP g w v (.func (.func c) fi ca) (B + 2) TT) := by
  obtain ⟨W, hW, hb, R, hz⟩ := lay1 w #[.nilFunc, .pointer none] 81
  have hs0 := Ste.below hin hb
  have hm0 := hs0.mor hin
  have HI0 : Calls Tryz.prog 21 #[.pointer (some ⟨qx, 0, none⟩), .int .i64 15, .int .i64 0] W fun e w' => e = .returned (.bool (vx.is 15 0)) ∧ w' = W := is_any qx vx 15 0 g W hs0.inv hvx
  have HI1 : Calls Tryz.prog 21 #[.pointer (some ⟨qx, 0, none⟩), .int .i64 16, .int .i64 1] W fun e w' => e = .returned (.bool (vx.is 16 1)) ∧ w' = W := is_any qx vx 16 1 g W hs0.inv hvx
  obtain ⟨br0, _⟩ := (hbr.along hm0).2.one
  obtain ⟨bt0, _⟩ := (hbt.along hm0).2.one
  obtain ⟨r0, r1, r2, r3⟩ := R.two
  have HR : Hid (g.l w.heap.size = none ∧ ¬ g.o w.heap.size ∧ Blk W w.heap.size #[.nilFunc, .pointer none] 81) := ⟨hin.l_new (Nat.le_refl _), hin.o_new (Nat.le_refl _), R⟩
  have HS : Hid (Ste g w g W) := hs0
  have hoqr := hs0.inv.vo hvr
  have m1 : w.heap.size ≠ qr := fun e => HR.out.2.1 (e ▸ hoqr)
  have m5 : w.heap.size ≠ br := fun e => HR.out.2.1 (e ▸ hbr.1)
  have m6 : w.heap.size ≠ bt := fun e => HR.out.2.1 (e ▸ hbt.1)
  have hd0 := Ste.drew hs0.inv
  unfold ptr at *
  cases hf0 : vx.is 15 0
  · rw [hf0] at HI0 hK
    cases hf : vx.is 16 1
    · rw [hf] at HI1 hK
      simp only [Bool.false_eq_true, if_false, Option.some.injEq] at hK
      subst hK
      have hR2 := R.set2 (.func (.func c) fi ca) (.pointer (some ⟨qr, 0, none⟩))
      obtain ⟨s0, s1, _, _⟩ := hR2.two
      have HF : Hid (NxP g w vr (.func (.func c) fi ca) (B + 2) TT (.returned (.agg #[.func (.func c) fi ca, .pointer (some ⟨qr, 0, none⟩)])) ((W.setCell ⟨w.heap.size, 0, none⟩ (.func (.func c) fi ca)).setCell ⟨w.heap.size, 1, none⟩ (.pointer (some ⟨qr, 0, none⟩)))) :=
        nx_here (B + 2) (Ste.set2 HS.out (Nat.le_refl _) HR.out.1 HR.out.2.1 _ _) hvr
      clear hin hvx hbr hvr hbt hs0 hm0 hD hb hR2 R hf hf0 hoqr hd0
      go_enter Tryz.func85, Tryz.ntmps85
      go_wp2_with (first | ((with_reducible refine HI0.mono ?_); rintro e w1 ⟨rfl, rfl⟩) | ((with_reducible refine HI1.mono ?_); rintro e w1 ⟨rfl, rfl⟩))
      refine bodyPost_ret (v := .agg #[.func (.func c) fi ca, .pointer (some ⟨qr, 0, none⟩)]) (by simp [results, Tryz.results85, go_sem, s0, s1]) rfl HF.out
    · rw [hf] at HI1 hK
      simp only [Bool.false_eq_true, if_false, if_true] at hK
      cases hsh : shaped vr.args
      · rw [hsh] at hK; cases hK
      · rw [hsh] at hK
        simp only [if_true] at hK
        obtain ⟨n, hn⟩ : ∃ x, plainOf vx.args 0 = some x := by
          cases h : plainOf vx.args 0 with
          | none => rw [h] at hK; cases hK
          | some x => exact ⟨x, rfl⟩
        rw [hn] at hK
        simp only at hK
        obtain ⟨d, hd⟩ : ∃ d, underOf vr.args 2 [n, .came (lessOf vr n)] = some d := by
          cases h : underOf vr.args 2 [n, .came (lessOf vr n)] with
          | none => rw [h] at hK; cases hK
          | some x => exact ⟨x, rfl⟩
        rw [hd] at hK
        simp only at hK
        obtain ⟨a, ha, hap⟩ := underOf_some hd
        obtain ⟨hfk, hfl⟩ := Nd.is_iff hf
        obtain ⟨pf, capf, f0, f1, f2, hfa⟩ := (hs0.inv.v qx vx hvx).cells
        obtain ⟨bf, fx, fu, rfl, hof, hfx, _, hA⟩ := hfa.at (plainOf_some hn)
        obtain ⟨⟨bn, rfl, hbn⟩, _⟩ := hA.plain
        obtain ⟨a0, t1, a2, t3, hargs, _, _⟩ := shaped_some hsh
        have hlen : vr.args.length = 4 := by rw [hargs]; rfl
        obtain ⟨pr, capr, g0, g1', g2', hra⟩ := (hs0.inv.v qr vr hvr).cells
        obtain ⟨bR, rx, ru, rfl, hoR, _, hru, hAR⟩ := hra.at ha
        obtain ⟨cR, caR, rfl⟩ := hAR.fn hap
        rw [show 2 * 2 + 1 = 5 from rfl] at hru
        rw [show 2 * 0 = 0 from rfl] at hfx
        rw [hfl] at f2
        rw [hlen] at g2'
        have HCame : Calls Tryz.prog 86 #[.pointer (some ⟨qr, 0, none⟩), .pointer (some ⟨bn, 0, none⟩)] W.drew (LatP g W.drew (.came (lessOf vr n))) := came_any qr bn vr n g W.drew hd0.inv hvr hsh hbn
        have m3 : w.heap.size ≠ bR := fun e => HR.out.2.1 (e ▸ hoR)
        have HO : Hid ((g.o qr ∧ g.o bR ∧ g.o br ∧ g.o bt) ∧ Ste g W g W.drew ∧ ArIs g W.drew rx (.func (.func cR) #[] caR) a ∧ appl a [n, .came (lessOf vr n)] = some d ∧ DoingP s B ∧ ev s d = some v ∧ g.l bn = some n) := ⟨⟨hoqr, hoR, hbr.1, hbt.1⟩, hd0, hAR.along (hd0.mor hs0.inv), hap, hD, hK, hbn⟩
        clear hin hvx hbr hvr hbt hs0 hm0 hD hb R hf hf0 hsh hn hK hd ha hap hfk hfl f0 f1 hfa hof hbn hA hargs hlen g0 g1' hra hoR hAR hoqr hd0
        go_enter Tryz.func85, Tryz.ntmps85
        go_wp2_with (first | ((with_reducible refine HI0.mono ?_); rintro e w1 ⟨rfl, rfl⟩) | ((with_reducible refine HI1.mono ?_); rintro e w1 ⟨rfl, rfl⟩))
        go_region_held3 (fun w' => w'.cell? ⟨br, 0, none⟩ = some (.pointer (some ⟨qr, 0, none⟩)) ∧ w'.cell? ⟨qr, 2, none⟩ = some (.slice (some ⟨bR, 0, none⟩) 4 capr) ∧ w'.cell? ⟨bR, 5, none⟩ = some (.func (.func cR) #[] caR) ∧ w'.cell? ⟨bt, 0, none⟩ = some (.func (.func c) fi ca)) (go_keep)
          (first
            | (go_at_call 86; refine HCame.mono ?_; rintro e w2 ⟨g2, bc, rfl, hs2, hl2⟩; have hm2 := hs2.mor HO.out.2.1.inv; have e1 := hm2.put HO.out.1.2.2.1 br0; have e2 := hm2.put HO.out.1.1 g2'; have e3 := hm2.put HO.out.1.2.1 hru; have e4 := hm2.put HO.out.1.2.2.2 bt0; obtain ⟨W2, hW2, hb2, R2, hz2⟩ := lay1 w2 #[.pointer (some ⟨bn, 0, none⟩), .pointer (some ⟨bc, 0, none⟩)] 43; have hsb := Ste.below hs2.inv hb2; have hm3 := hm2.trans (hsb.mor hs2.inv); have o1 := hm3.put HO.out.1.2.2.1 br0; have o2 := hm3.put HO.out.1.1 g2'; have o3 := hm3.put HO.out.1.2.1 hru; have o4 := hm3.put HO.out.1.2.2.2 bt0; obtain ⟨c', ca', heq, hE, hC⟩ := under_any hsb.inv (HO.out.2.2.1.along hm3) HO.out.2.2.2.1 (some ⟨w2.heap.size, 0, none⟩) 2 (row2 R2 (hm3.l _ _ HO.out.2.2.2.2.2.2) hl2) (by simp); obtain ⟨hfn, _, hcaR⟩ := Value.func.inj heq; obtain rfl := Fn.func.inj hfn; subst hcaR; unfold Enters at hE; have HC1 : Calls Tryz.prog cR (#[.slice (some ⟨w2.heap.size, 0, none⟩) 2 2] ++ caR) W2 (DoP g2 W2 d) := hC; have HT2 : Hid (Ste g w1 g2 W2) := HO.out.2.1.trans (hs2.trans hsb); unfold ptr)
            | ((with_reducible refine HC1.mono ?_); rintro e w3 ⟨g3, c2, fi2, ca2, rfl, hs3, hd3⟩; have hm4 := hs3.mor hsb.inv; have d1 := hm4.put (hm3.o _ HO.out.1.2.2.1) o1; have d2 := hm4.put (hm3.o _ HO.out.1.1) o2; have d3 := hm4.put (hm3.o _ HO.out.1.2.1) o3; have d4 := hm4.put (hm3.o _ HO.out.1.2.2.2) o4; obtain ⟨c3, fi3, ca3, he3, hE3, hC3⟩ := HO.out.2.2.2.2.1 g3 w3 _ d v c fi ca hs3.inv hd3 HO.out.2.2.2.2.2.1; obtain ⟨hfn3, rfl, rfl⟩ := Value.func.inj he3; obtain rfl := Fn.func.inj hfn3; unfold Enters at hE3; rw [Array.append_singleton] at hC3)
            | ((with_reducible refine hC3.mono ?_); rintro e w4 ⟨g4, c4, fi4, ca4, p4, rfl, hs4, hC4⟩; have hm5 := hs4.mor hs3.inv; have l1 := hm5.put (hm4.o _ (hm3.o _ HO.out.1.2.2.1)) d1; have l2 := hm5.put (hm4.o _ (hm3.o _ HO.out.1.1)) d2; have l3 := hm5.put (hm4.o _ (hm3.o _ HO.out.1.2.1)) d3; have l4 := hm5.put (hm4.o _ (hm3.o _ HO.out.1.2.2.2)) d4; have HT : Hid (Ste g w1 g4 w4) := (HT2.out.trans hs3).trans hs4; have HR3 := HR.out.2.2.of_eq (HT.out.keep.block _ HR.out.2.2.lt HR.out.1); obtain ⟨q0, q1, q2, q3⟩ := HR3.two))
        obtain ⟨u1, u2, _⟩ := nx_set HS.out HT.out (hC4.more (Nat.le_add_right B 2)) (Nat.le_refl _) HR.out.2.2.lt HR.out.1 HR.out.2.1
        obtain ⟨s0, s1, _, _⟩ := (HR3.set2 (.func (.func c4) fi4 ca4) (.pointer p4)).two
        have HF : Hid (NxP g w v (.func (.func c) fi ca) (B + 2) TT (.returned (.agg #[.func (.func c4) fi4 ca4, .pointer p4])) ((w4.setCell ⟨w.heap.size, 0, none⟩ (.func (.func c4) fi4 ca4)).setCell ⟨w.heap.size, 1, none⟩ (.pointer p4))) := ⟨g4, c4, fi4, ca4, p4, rfl, u1, u2⟩
        go_wp2_with fail
        refine bodyPost_ret (v := .agg #[.func (.func c4) fi4 ca4, .pointer p4]) (by simp [results, Tryz.results85, go_sem, s0, s1]) rfl HF.out
  · rw [hf0] at HI0 hK
    simp only [if_true] at hK
    obtain ⟨x, hx⟩ : ∃ x, plainOf vr.args 1 = some x := by
      cases h : plainOf vr.args 1 with
      | none => rw [h] at hK; cases hK
      | some x => exact ⟨x, rfl⟩
    rw [hx] at hK
    simp only at hK
    obtain ⟨pf, capf, f0, f1, f2, hfa⟩ := (hs0.inv.v qr vr hvr).cells
    obtain ⟨bf, fx, fu, rfl, hof, hfx, _, hA⟩ := hfa.at (plainOf_some hx)
    obtain ⟨⟨bx, rfl, hbx⟩, _⟩ := hA.plain
    have HA : Calls Tryz.prog 29 #[.pointer (some ⟨bx, 0, none⟩), .func (.func c) fi ca] W.drew (NxP g W.drew v (.func (.func c) fi ca) (B + 2) TT) :=
      (ask_any s B hD bx c fi ca x v g W.drew hd0.inv hbx hK).mono fun e w' h => h.weak
    have HO : Hid ((g.o qr ∧ g.o bf ∧ g.o br ∧ g.o bt) ∧ Ste g W g W.drew) := ⟨⟨hoqr, hof, hbr.1, hbt.1⟩, hd0⟩
    have m3 : w.heap.size ≠ bf := fun e => HR.out.2.1 (e ▸ hof)
    rw [show 2 * 1 = 2 from rfl] at hfx
    obtain ⟨na, hna, hna1⟩ : ∃ na, vr.args.length = na ∧ 1 < na := ⟨_, rfl, (List.getElem?_eq_some_iff.1 (plainOf_some hx)).1⟩
    rw [hna] at f2
    have hna2 : (1 : Int) < (na : Int) := by omega
    clear hin hvx hbr hvr hbt hs0 hm0 hD hb R hf0 hx hK f0 f1 hfa hof hbx hd0 hA hoqr HI1 hna
    go_enter Tryz.func85, Tryz.ntmps85
    go_wp2_with (first | ((with_reducible refine HI0.mono ?_); rintro e w1 ⟨rfl, rfl⟩))
    go_region_held3 (fun w' => w'.cell? ⟨qr, 2, none⟩ = some (.slice (some ⟨bf, 0, none⟩) na capf) ∧ w'.cell? ⟨bf, 2, none⟩ = some (.pointer (some ⟨bx, 0, none⟩)) ∧ w'.cell? ⟨br, 0, none⟩ = some (.pointer (some ⟨qr, 0, none⟩)) ∧ w'.cell? ⟨bt, 0, none⟩ = some (.func (.func c) fi ca)) (go_keep)
      (first
        | (go_at_call 29; refine HA.mono ?_; rintro e w3 ⟨g3, c4, fi4, ca4, p4, rfl, hs4, hC4⟩; have hm4 := hs4.mor HO.out.2.inv; have e1 := hm4.put HO.out.1.1 f2; have e2 := hm4.put HO.out.1.2.1 hfx; have e3 := hm4.put HO.out.1.2.2.1 br0; have e4 := hm4.put HO.out.1.2.2.2 bt0; have HT : Hid (Ste g w1 g3 w3) := HO.out.2.trans hs4; have HR3 := HR.out.2.2.of_eq (HT.out.keep.block _ HR.out.2.2.lt HR.out.1); obtain ⟨q0, q1, q2, q3⟩ := HR3.two))
    obtain ⟨u1, u2, _⟩ := nx_set HS.out HT.out hC4 (Nat.le_refl _) HR.out.2.2.lt HR.out.1 HR.out.2.1
    obtain ⟨s0, s1, _, _⟩ := (HR3.set2 (.func (.func c4) fi4 ca4) (.pointer p4)).two
    have HF : Hid (NxP g w v (.func (.func c) fi ca) (B + 2) TT (.returned (.agg #[.func (.func c4) fi4 ca4, .pointer p4])) ((w3.setCell ⟨w.heap.size, 0, none⟩ (.func (.func c4) fi4 ca4)).setCell ⟨w.heap.size, 1, none⟩ (.pointer p4))) := ⟨g3, c4, fi4, ca4, p4, rfl, u1, u2⟩
    go_wp2_with fail
    refine bodyPost_ret (v := .agg #[.func (.func c4) fi4 ca4, .pointer p4]) (by simp [results, Tryz.results85, go_sem, s0, s1]) rfl HF.out
end Go.Proofs.YthfjmcomhccbaaaGreatDoor
