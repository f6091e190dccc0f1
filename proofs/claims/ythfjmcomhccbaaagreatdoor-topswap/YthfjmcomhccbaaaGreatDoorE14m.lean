/-
  Contracts: call, half, count, settle, and the closures that lead to them.
-/
/-
  Contracts: settle, and the closures of Of and came.
-/
import Derived.Test.YthfjmcomhccbaaaGreatDoorE12m
namespace Go.Proofs.YthfjmcomhccbaaaGreatDoor
open Go.RowKit Tmx Evx
set_option maxRecDepth 60000

theorem ent_call1 : Enters 83 := fun a W => by kernel_rfl
theorem ent_half1 : Enters 84 := fun a W => by kernel_rfl
theorem ent_count1 : Enters 85 := fun a W => by kernel_rfl

set_option maxHeartbeats 2000000 in
theorem call_any (s B : Nat) (hD : DoingP s B) (qv c : Nat) (fi ca : Array Value) (va v : V) (g : Gh) (w : World) (hin : Inv g w) (hva : g.v qv = some va) (hK : callV (ev s) va = some v) :
    Calls Tryz.prog 67 #[ptr qv, .func (.func c) fi ca] w (NxP g w v (.func (.func c) fi ca) (2 * B + 5) TT) := by
  obtain ⟨W, hW, hb, B1, B2, R, hz⟩ := lay3 w #[.pointer (some ⟨qv, 0, none⟩)] #[.func (.func c) fi ca] #[.nilFunc, .pointer none] 62 79 81
  obtain ⟨g1, hs0, hm0, hbox, hfree⟩ := lay_box hin hb 2 (by omega)
  unfold callV at hK
  obtain ⟨a, ha⟩ : ∃ a, plainOf va.args 0 = some a := by
    cases h : plainOf va.args 0 with
    | none => rw [h] at hK; cases hK
    | some x => exact ⟨x, rfl⟩
  rw [ha] at hK
  simp only at hK
  obtain ⟨x, hx⟩ : ∃ x, ev s a = some x := by
    cases h : ev s a with
    | none => rw [h] at hK; cases hK
    | some x => exact ⟨x, rfl⟩
  rw [hx] at hK
  simp only at hK
  obtain ⟨pf, capf, f0, f1, f2, hfa⟩ := (hs0.inv.v qv va (hm0.v _ _ hva)).cells
  obtain ⟨bf, fx, fu, rfl, hof, hfx, _, hA⟩ := hfa.at (plainOf_some ha)
  obtain ⟨⟨bx, rfl, hbx⟩, _⟩ := hA.plain
  have HA : Calls Tryz.prog 29 #[.pointer (some ⟨bx, 0, none⟩), .func (.func 83) #[] #[.pointer (some ⟨w.heap.size, 0, none⟩), .pointer (some ⟨w.heap.size + 1, 0, none⟩)]] W (NxP g1 W x (.func (.func 83) #[] #[.pointer (some ⟨w.heap.size, 0, none⟩), .pointer (some ⟨w.heap.size + 1, 0, none⟩)]) (B + 2) (DN bx)) :=
    ask_any s B hD bx 83 #[] #[.pointer (some ⟨w.heap.size, 0, none⟩), .pointer (some ⟨w.heap.size + 1, 0, none⟩)] a x g1 W hs0.inv hbx hx
  obtain ⟨na, hna, hna1⟩ : ∃ na, va.args.length = na ∧ 0 < na := ⟨_, rfl, (List.getElem?_eq_some_iff.1 (plainOf_some ha)).1⟩
  rw [hna] at f2
  have hna2 : (0 : Int) < (na : Int) := by omega
  rw [show 2 * 0 = 0 from rfl] at hfx
  obtain ⟨b0, _⟩ := B1.one
  obtain ⟨b1, _⟩ := B2.one
  obtain ⟨r0, r1, r2, r3⟩ := R.two
  have HO : Hid (Ste g w g1 W ∧ DoingP s B ∧ g1.v qv = some va ∧ (BlkO g1 W (w.heap.size) #[.pointer (some ⟨qv, 0, none⟩)] 62 ∧ BlkO g1 W (w.heap.size + 1) #[.func (.func c) fi ca] 79) ∧ g1.l (w.heap.size + 1 + 1) = none ∧ ¬ g1.o (w.heap.size + 1 + 1) ∧ Blk W (w.heap.size + 1 + 1) #[.nilFunc, .pointer none] 81) := ⟨hs0, hD, hm0.v _ _ hva, ⟨⟨hbox _ (by omega) (by omega), B1⟩, ⟨hbox _ (by omega) (by omega), B2⟩⟩, (hfree _ (by omega)).1, (hfree _ (by omega)).2, R⟩
  have HK := (show Hid _ from hK)
  unfold ptr at *
  clear hin hva hs0 hm0 hbox hfree hD hb R ha hx hK f0 f1 hfa hof hbx hA hna B1 B2
  go_enter Tryz.func67, Tryz.ntmps67
  go_wp2_with fail
  refine HA.mono ?_
  rintro e w2 ⟨g2, c3, fi3, ca3, p3, rfl, hs2, hC2⟩
  obtain ⟨hs0, hD, hva, hbo, hl0, ho0, R⟩ := HO.out
  obtain ⟨hl2, ho2, hsame⟩ := hs0.mine hs2 R.lt hl0 ho0
  have R2 := R.of_eq hsame
  have HF : Hid (Ste g w g2 ((w2.setCell ⟨w.heap.size + 1 + 1, 0, none⟩ (.func (.func c3) fi3 ca3)).setCell ⟨w.heap.size + 1 + 1, 1, none⟩ (.pointer p3)) ∧ Cont (2 * B + 5) v (.func (.func c) fi ca) TT g2 ((w2.setCell ⟨w.heap.size + 1 + 1, 0, none⟩ (.func (.func c3) fi3 ca3)).setCell ⟨w.heap.size + 1 + 1, 1, none⟩ (.pointer p3)) (.agg #[.func (.func c3) fi3 ca3, .pointer p3])) := by
    have hp := Pri.set2 (w := w2) hl2 ho2 (.func (.func c3) fi3 ca3) (.pointer p3)
    refine ⟨Ste.set2 (hs0.trans hs2) (by omega) hl2 ho2 _ _, Cont.more (Cont.bind (B1 := B + 2) (B2 := B) (hp.inv hs2.inv) (hC2.pri hp) ent_call1 ?_) (by omega)⟩
    intro x g3 w3 q hmo hi3 hmine hv3 _
    have hm2 := ((hs2.mor hs0.inv).trans hp.mor).trans hmo
    exact call1_any s B hD q qv _ _ c fi ca _ va v g3 w3 hi3 hv3 (hbo.1.along hm2) (hm2.v _ _ hva) (hbo.2.along hm2) HK.out
  obtain ⟨s0, s1, s2, s3⟩ := R2.two
  obtain ⟨g0, g1, _, _⟩ := (R2.set2 (.func (.func c3) fi3 ca3) (.pointer p3)).two
  clear hs0 hD hva hbo hl0 ho0 R hsame hs2 hC2 HA hl2 ho2 R2
  go_wp2_with fail
  refine bodyPost_ret (v := .agg #[.func (.func c3) fi3 ca3, .pointer p3]) (by simp [results, Tryz.results67, go_sem, g0, g1]) rfl ⟨g2, c3, fi3, ca3, p3, rfl, HF.out.1, HF.out.2⟩

set_option maxHeartbeats 2000000 in
theorem half_any (s B : Nat) (hD : DoingP s B) (qv c : Nat) (i : Nat) (fi ca : Array Value) (va v : V) (g : Gh) (w : World) (hin : Inv g w) (hva : g.v qv = some va) (hi4 : i < 4) (hK : halfV (ev s) va i = some v) :
    Calls Tryz.prog 68 #[ptr qv, .int .i64 (i : Int), .func (.func c) fi ca] w (NxP g w v (.func (.func c) fi ca) (2 * B + 5) TT) := by
  obtain ⟨W, hW, hb, B1, B2, B3, R, hz⟩ := lay4 w #[.pointer (some ⟨qv, 0, none⟩)] #[.int .i64 (i : Int)] #[.func (.func c) fi ca] #[.nilFunc, .pointer none] 62 3 79 81
  obtain ⟨g1, hs0, hm0, hbox, hfree⟩ := lay_box hin hb 3 (by omega)
  unfold halfV at hK
  obtain ⟨a, ha⟩ : ∃ a, plainOf va.args 0 = some a := by
    cases h : plainOf va.args 0 with
    | none => rw [h] at hK; cases hK
    | some x => exact ⟨x, rfl⟩
  rw [ha] at hK
  simp only at hK
  obtain ⟨x, hx⟩ : ∃ x, ev s a = some x := by
    cases h : ev s a with
    | none => rw [h] at hK; cases hK
    | some x => exact ⟨x, rfl⟩
  rw [hx] at hK
  simp only at hK
  obtain ⟨pf, capf, f0, f1, f2, hfa⟩ := (hs0.inv.v qv va (hm0.v _ _ hva)).cells
  obtain ⟨bf, fx, fu, rfl, hof, hfx, _, hA⟩ := hfa.at (plainOf_some ha)
  obtain ⟨⟨bx, rfl, hbx⟩, _⟩ := hA.plain
  have HA : Calls Tryz.prog 29 #[.pointer (some ⟨bx, 0, none⟩), .func (.func 84) #[] #[.pointer (some ⟨w.heap.size + 1, 0, none⟩), .pointer (some ⟨w.heap.size + 1 + 1, 0, none⟩), .pointer (some ⟨w.heap.size, 0, none⟩)]] W (NxP g1 W x (.func (.func 84) #[] #[.pointer (some ⟨w.heap.size + 1, 0, none⟩), .pointer (some ⟨w.heap.size + 1 + 1, 0, none⟩), .pointer (some ⟨w.heap.size, 0, none⟩)]) (B + 2) (DN bx)) :=
    ask_any s B hD bx 84 #[] #[.pointer (some ⟨w.heap.size + 1, 0, none⟩), .pointer (some ⟨w.heap.size + 1 + 1, 0, none⟩), .pointer (some ⟨w.heap.size, 0, none⟩)] a x g1 W hs0.inv hbx hx
  obtain ⟨na, hna, hna1⟩ : ∃ na, va.args.length = na ∧ 0 < na := ⟨_, rfl, (List.getElem?_eq_some_iff.1 (plainOf_some ha)).1⟩
  rw [hna] at f2
  have hna2 : (0 : Int) < (na : Int) := by omega
  rw [show 2 * 0 = 0 from rfl] at hfx
  obtain ⟨b0, _⟩ := B1.one
  obtain ⟨b1, _⟩ := B2.one
  obtain ⟨b2, _⟩ := B3.one
  obtain ⟨r0, r1, r2, r3⟩ := R.two
  have HO : Hid (Ste g w g1 W ∧ DoingP s B ∧ g1.v qv = some va ∧ (BlkO g1 W (w.heap.size) #[.pointer (some ⟨qv, 0, none⟩)] 62 ∧ BlkO g1 W (w.heap.size + 1) #[.int .i64 (i : Int)] 3 ∧ BlkO g1 W (w.heap.size + 1 + 1) #[.func (.func c) fi ca] 79) ∧ g1.l (w.heap.size + 1 + 1 + 1) = none ∧ ¬ g1.o (w.heap.size + 1 + 1 + 1) ∧ Blk W (w.heap.size + 1 + 1 + 1) #[.nilFunc, .pointer none] 81) := ⟨hs0, hD, hm0.v _ _ hva, ⟨⟨hbox _ (by omega) (by omega), B1⟩, ⟨hbox _ (by omega) (by omega), B2⟩, ⟨hbox _ (by omega) (by omega), B3⟩⟩, (hfree _ (by omega)).1, (hfree _ (by omega)).2, R⟩
  have HK := (show Hid _ from hK)
  have HI4 : Hid (i < 4) := hi4
  unfold ptr at *
  clear hi4 hin hva hs0 hm0 hbox hfree hD hb R ha hx hK f0 f1 hfa hof hbx hA hna B1 B2 B3
  go_enter Tryz.func68, Tryz.ntmps68
  go_wp2_with fail
  refine HA.mono ?_
  rintro e w2 ⟨g2, c3, fi3, ca3, p3, rfl, hs2, hC2⟩
  obtain ⟨hs0, hD, hva, hbo, hl0, ho0, R⟩ := HO.out
  obtain ⟨hl2, ho2, hsame⟩ := hs0.mine hs2 R.lt hl0 ho0
  have R2 := R.of_eq hsame
  have HF : Hid (Ste g w g2 ((w2.setCell ⟨w.heap.size + 1 + 1 + 1, 0, none⟩ (.func (.func c3) fi3 ca3)).setCell ⟨w.heap.size + 1 + 1 + 1, 1, none⟩ (.pointer p3)) ∧ Cont (2 * B + 5) v (.func (.func c) fi ca) TT g2 ((w2.setCell ⟨w.heap.size + 1 + 1 + 1, 0, none⟩ (.func (.func c3) fi3 ca3)).setCell ⟨w.heap.size + 1 + 1 + 1, 1, none⟩ (.pointer p3)) (.agg #[.func (.func c3) fi3 ca3, .pointer p3])) := by
    have hp := Pri.set2 (w := w2) hl2 ho2 (.func (.func c3) fi3 ca3) (.pointer p3)
    refine ⟨Ste.set2 (hs0.trans hs2) (by omega) hl2 ho2 _ _, Cont.more (Cont.bind (B1 := B + 2) (B2 := B + 2) (hp.inv hs2.inv) (hC2.pri hp) ent_half1 ?_) (by omega)⟩
    intro x g3 w3 q hmo hi3 hmine hv3 _
    have hm2 := ((hs2.mor hs0.inv).trans hp.mor).trans hmo
    exact half1_any s B hD q qv _ _ _ c i fi ca _ va v g3 w3 hi3 hv3 (hbo.2.1.along hm2) (hbo.1.along hm2) (hm2.v _ _ hva) (hbo.2.2.along hm2) HI4.out HK.out
  obtain ⟨s0, s1, s2, s3⟩ := R2.two
  obtain ⟨g0, g1, _, _⟩ := (R2.set2 (.func (.func c3) fi3 ca3) (.pointer p3)).two
  clear hs0 hD hva hbo hl0 ho0 R hsame hs2 hC2 HA hl2 ho2 R2
  go_wp2_with fail
  refine bodyPost_ret (v := .agg #[.func (.func c3) fi3 ca3, .pointer p3]) (by simp [results, Tryz.results68, go_sem, g0, g1]) rfl ⟨g2, c3, fi3, ca3, p3, rfl, HF.out.1, HF.out.2⟩

set_option maxHeartbeats 2000000 in
theorem count_any (s B : Nat) (hD : DoingP s B) (qv c : Nat) (fi ca : Array Value) (va v : V) (g : Gh) (w : World) (hin : Inv g w) (hva : g.v qv = some va) (hK : countV (ev s) va = some v) :
    Calls Tryz.prog 69 #[ptr qv, .func (.func c) fi ca] w (NxP g w v (.func (.func c) fi ca) (2 * B + 5) TT) := by
  obtain ⟨W, hW, hb, B1, B2, R, hz⟩ := lay3 w #[.pointer (some ⟨qv, 0, none⟩)] #[.func (.func c) fi ca] #[.nilFunc, .pointer none] 62 79 81
  obtain ⟨g1, hs0, hm0, hbox, hfree⟩ := lay_box hin hb 2 (by omega)
  unfold countV at hK
  obtain ⟨a, ha⟩ : ∃ a, plainOf va.args 3 = some a := by
    cases h : plainOf va.args 3 with
    | none => rw [h] at hK; cases hK
    | some x => exact ⟨x, rfl⟩
  rw [ha] at hK
  simp only at hK
  obtain ⟨x, hx⟩ : ∃ x, ev s a = some x := by
    cases h : ev s a with
    | none => rw [h] at hK; cases hK
    | some x => exact ⟨x, rfl⟩
  rw [hx] at hK
  simp only at hK
  obtain ⟨pf, capf, f0, f1, f2, hfa⟩ := (hs0.inv.v qv va (hm0.v _ _ hva)).cells
  obtain ⟨bf, fx, fu, rfl, hof, hfx, _, hA⟩ := hfa.at (plainOf_some ha)
  obtain ⟨⟨bx, rfl, hbx⟩, _⟩ := hA.plain
  have HA : Calls Tryz.prog 29 #[.pointer (some ⟨bx, 0, none⟩), .func (.func 85) #[] #[.pointer (some ⟨w.heap.size, 0, none⟩), .pointer (some ⟨w.heap.size + 1, 0, none⟩)]] W (NxP g1 W x (.func (.func 85) #[] #[.pointer (some ⟨w.heap.size, 0, none⟩), .pointer (some ⟨w.heap.size + 1, 0, none⟩)]) (B + 2) (DN bx)) :=
    ask_any s B hD bx 85 #[] #[.pointer (some ⟨w.heap.size, 0, none⟩), .pointer (some ⟨w.heap.size + 1, 0, none⟩)] a x g1 W hs0.inv hbx hx
  obtain ⟨na, hna, hna1⟩ : ∃ na, va.args.length = na ∧ 3 < na := ⟨_, rfl, (List.getElem?_eq_some_iff.1 (plainOf_some ha)).1⟩
  rw [hna] at f2
  have hna2 : (3 : Int) < (na : Int) := by omega
  rw [show 2 * 3 = 6 from rfl] at hfx
  obtain ⟨b0, _⟩ := B1.one
  obtain ⟨b1, _⟩ := B2.one
  obtain ⟨r0, r1, r2, r3⟩ := R.two
  have HO : Hid (Ste g w g1 W ∧ DoingP s B ∧ g1.v qv = some va ∧ (BlkO g1 W (w.heap.size) #[.pointer (some ⟨qv, 0, none⟩)] 62 ∧ BlkO g1 W (w.heap.size + 1) #[.func (.func c) fi ca] 79) ∧ g1.l (w.heap.size + 1 + 1) = none ∧ ¬ g1.o (w.heap.size + 1 + 1) ∧ Blk W (w.heap.size + 1 + 1) #[.nilFunc, .pointer none] 81) := ⟨hs0, hD, hm0.v _ _ hva, ⟨⟨hbox _ (by omega) (by omega), B1⟩, ⟨hbox _ (by omega) (by omega), B2⟩⟩, (hfree _ (by omega)).1, (hfree _ (by omega)).2, R⟩
  have HK := (show Hid _ from hK)
  unfold ptr at *
  clear hin hva hs0 hm0 hbox hfree hD hb R ha hx hK f0 f1 hfa hof hbx hA hna B1 B2
  go_enter Tryz.func69, Tryz.ntmps69
  go_wp2_with fail
  refine HA.mono ?_
  rintro e w2 ⟨g2, c3, fi3, ca3, p3, rfl, hs2, hC2⟩
  obtain ⟨hs0, hD, hva, hbo, hl0, ho0, R⟩ := HO.out
  obtain ⟨hl2, ho2, hsame⟩ := hs0.mine hs2 R.lt hl0 ho0
  have R2 := R.of_eq hsame
  have HF : Hid (Ste g w g2 ((w2.setCell ⟨w.heap.size + 1 + 1, 0, none⟩ (.func (.func c3) fi3 ca3)).setCell ⟨w.heap.size + 1 + 1, 1, none⟩ (.pointer p3)) ∧ Cont (2 * B + 5) v (.func (.func c) fi ca) TT g2 ((w2.setCell ⟨w.heap.size + 1 + 1, 0, none⟩ (.func (.func c3) fi3 ca3)).setCell ⟨w.heap.size + 1 + 1, 1, none⟩ (.pointer p3)) (.agg #[.func (.func c3) fi3 ca3, .pointer p3])) := by
    have hp := Pri.set2 (w := w2) hl2 ho2 (.func (.func c3) fi3 ca3) (.pointer p3)
    refine ⟨Ste.set2 (hs0.trans hs2) (by omega) hl2 ho2 _ _, Cont.more (Cont.bind (B1 := B + 2) (B2 := B + 2) (hp.inv hs2.inv) (hC2.pri hp) ent_count1 ?_) (by omega)⟩
    intro x g3 w3 q hmo hi3 hmine hv3 _
    have hm2 := ((hs2.mor hs0.inv).trans hp.mor).trans hmo
    exact count1_any s B hD q qv _ _ c fi ca _ va v g3 w3 hi3 hv3 (hbo.1.along hm2) (hm2.v _ _ hva) (hbo.2.along hm2) HK.out
  obtain ⟨s0, s1, s2, s3⟩ := R2.two
  obtain ⟨g0, g1, _, _⟩ := (R2.set2 (.func (.func c3) fi3 ca3) (.pointer p3)).two
  clear hs0 hD hva hbo hl0 ho0 R hsame hs2 hC2 HA hl2 ho2 R2
  go_wp2_with fail
  refine bodyPost_ret (v := .agg #[.func (.func c3) fi3 ca3, .pointer p3]) (by simp [results, Tryz.results69, go_sem, g0, g1]) rfl ⟨g2, c3, fi3, ca3, p3, rfl, HF.out.1, HF.out.2⟩
end Go.Proofs.YthfjmcomhccbaaaGreatDoor

namespace Go.Proofs.YthfjmcomhccbaaaGreatDoor
open Go.RowKit Tmx Evx
set_option maxRecDepth 60000

set_option maxHeartbeats 4000000 in
theorem settle_any (s B : Nat) (hD : DoingP s B) (qv c : Nat) (fi ca : Array Value) (va v : V) (g : Gh) (w : World) (hin : Inv g w) (hva : g.v qv = some va) (hK : settleV (ev s) va = some v) :
    Calls Tryz.prog 52 #[ptr qv, .func (.func c) fi ca] w (NxP g w v (.func (.func c) fi ca) (2 * B + 5) TT) := by
  obtain ⟨W, hW, hb, R, hz⟩ := lay1 w #[.nilFunc, .pointer none] 81
  have hs0 := Ste.below hin hb
  have HI5 : Calls Tryz.prog 21 #[.pointer (some ⟨qv, 0, none⟩), .int .i64 5, .int .i64 2] W fun e w' => e = .returned (.bool (va.is 5 2)) ∧ w' = W := is_any qv va 5 2 g W hs0.inv hva
  have HI8 : Calls Tryz.prog 21 #[.pointer (some ⟨qv, 0, none⟩), .int .i64 8, .int .i64 1] W fun e w' => e = .returned (.bool (va.is 8 1)) ∧ w' = W := is_any qv va 8 1 g W hs0.inv hva
  have HI9 : Calls Tryz.prog 21 #[.pointer (some ⟨qv, 0, none⟩), .int .i64 9, .int .i64 1] W fun e w' => e = .returned (.bool (va.is 9 1)) ∧ w' = W := is_any qv va 9 1 g W hs0.inv hva
  have HI17 : Calls Tryz.prog 21 #[.pointer (some ⟨qv, 0, none⟩), .int .i64 17, .int .i64 4] W fun e w' => e = .returned (.bool (va.is 17 4)) ∧ w' = W := is_any qv va 17 4 g W hs0.inv hva
  obtain ⟨r0, r1, r2, r3⟩ := R.two
  have HR : Hid (g.l w.heap.size = none ∧ ¬ g.o w.heap.size ∧ Blk W w.heap.size #[.nilFunc, .pointer none] 81) := ⟨hin.l_new (Nat.le_refl _), hin.o_new (Nat.le_refl _), R⟩
  have HS : Hid (Ste g w g W) := hs0
  have HV : Hid (g.v qv = some va) := hva
  unfold settleV at hK
  unfold ptr at *
  cases hc5 : va.is 5 2
  rotate_left
  · rw [hc5] at HI5 hK
    simp only [if_true] at hK
    have HC : Calls Tryz.prog 67 #[.pointer (some ⟨qv, 0, none⟩), .func (.func c) fi ca] W (NxP g W v (.func (.func c) fi ca) (2 * B + 5) TT) := call_any s B hD qv c fi ca va v g W hs0.inv hva hK
    clear hin hva hs0 hD hb R hK
    go_enter Tryz.func52, Tryz.ntmps52
    go_wp2_with (first | ((with_reducible refine HI5.mono ?_); rintro e w1 ⟨rfl, rfl⟩) | ((with_reducible refine HI8.mono ?_); rintro e w1 ⟨rfl, rfl⟩) | ((with_reducible refine HI9.mono ?_); rintro e w1 ⟨rfl, rfl⟩) | ((with_reducible refine HI17.mono ?_); rintro e w1 ⟨rfl, rfl⟩))
    refine HC.mono ?_
    rintro e w2 ⟨g2, c3, fi3, ca3, p3, rfl, hs2, hC2⟩
    obtain ⟨u1, u2, u3⟩ := nx_set HS.out hs2 hC2 (Nat.le_refl _) HR.out.2.2.lt HR.out.1 HR.out.2.1
    have R2 := u3 _ _ HR.out.2.2
    obtain ⟨s0, s1, s2, s3⟩ := R2.two
    obtain ⟨g0, g1, _, _⟩ := (R2.set2 (.func (.func c3) fi3 ca3) (.pointer p3)).two
    have HF : Hid (NxP g w v (.func (.func c) fi ca) (2 * B + 5) TT (.returned (.agg #[.func (.func c3) fi3 ca3, .pointer p3])) ((w2.setCell ⟨w.heap.size, 0, none⟩ (.func (.func c3) fi3 ca3)).setCell ⟨w.heap.size, 1, none⟩ (.pointer p3))) := ⟨g2, _, _, _, _, rfl, u1, u2⟩
    clear u1 u2 u3 hs2 hC2 HC R2
    go_wp2_with fail
    refine bodyPost_ret (v := .agg #[.func (.func c3) fi3 ca3, .pointer p3]) (by simp [results, Tryz.results52, go_sem, g0, g1]) rfl HF.out
  rw [hc5] at HI5 hK
  rw [if_neg (by simp)] at hK
  cases hc8 : va.is 8 1
  rotate_left
  · rw [hc8] at HI8 hK
    simp only [if_true] at hK
    have HC : Calls Tryz.prog 68 #[.pointer (some ⟨qv, 0, none⟩), .int .i64 2, .func (.func c) fi ca] W (NxP g W v (.func (.func c) fi ca) (2 * B + 5) TT) := half_any s B hD qv c 2 fi ca va v g W hs0.inv hva (by decide) hK
    clear hin hva hs0 hD hb R hK
    go_enter Tryz.func52, Tryz.ntmps52
    go_wp2_with (first | ((with_reducible refine HI5.mono ?_); rintro e w1 ⟨rfl, rfl⟩) | ((with_reducible refine HI8.mono ?_); rintro e w1 ⟨rfl, rfl⟩) | ((with_reducible refine HI9.mono ?_); rintro e w1 ⟨rfl, rfl⟩) | ((with_reducible refine HI17.mono ?_); rintro e w1 ⟨rfl, rfl⟩))
    refine HC.mono ?_
    rintro e w2 ⟨g2, c3, fi3, ca3, p3, rfl, hs2, hC2⟩
    obtain ⟨u1, u2, u3⟩ := nx_set HS.out hs2 hC2 (Nat.le_refl _) HR.out.2.2.lt HR.out.1 HR.out.2.1
    have R2 := u3 _ _ HR.out.2.2
    obtain ⟨s0, s1, s2, s3⟩ := R2.two
    obtain ⟨g0, g1, _, _⟩ := (R2.set2 (.func (.func c3) fi3 ca3) (.pointer p3)).two
    have HF : Hid (NxP g w v (.func (.func c) fi ca) (2 * B + 5) TT (.returned (.agg #[.func (.func c3) fi3 ca3, .pointer p3])) ((w2.setCell ⟨w.heap.size, 0, none⟩ (.func (.func c3) fi3 ca3)).setCell ⟨w.heap.size, 1, none⟩ (.pointer p3))) := ⟨g2, _, _, _, _, rfl, u1, u2⟩
    clear u1 u2 u3 hs2 hC2 HC R2
    go_wp2_with fail
    refine bodyPost_ret (v := .agg #[.func (.func c3) fi3 ca3, .pointer p3]) (by simp [results, Tryz.results52, go_sem, g0, g1]) rfl HF.out
  rw [hc8] at HI8 hK
  rw [if_neg (by simp)] at hK
  cases hc9 : va.is 9 1
  rotate_left
  · rw [hc9] at HI9 hK
    simp only [if_true] at hK
    have HC : Calls Tryz.prog 68 #[.pointer (some ⟨qv, 0, none⟩), .int .i64 3, .func (.func c) fi ca] W (NxP g W v (.func (.func c) fi ca) (2 * B + 5) TT) := half_any s B hD qv c 3 fi ca va v g W hs0.inv hva (by decide) hK
    clear hin hva hs0 hD hb R hK
    go_enter Tryz.func52, Tryz.ntmps52
    go_wp2_with (first | ((with_reducible refine HI5.mono ?_); rintro e w1 ⟨rfl, rfl⟩) | ((with_reducible refine HI8.mono ?_); rintro e w1 ⟨rfl, rfl⟩) | ((with_reducible refine HI9.mono ?_); rintro e w1 ⟨rfl, rfl⟩) | ((with_reducible refine HI17.mono ?_); rintro e w1 ⟨rfl, rfl⟩))
    refine HC.mono ?_
    rintro e w2 ⟨g2, c3, fi3, ca3, p3, rfl, hs2, hC2⟩
    obtain ⟨u1, u2, u3⟩ := nx_set HS.out hs2 hC2 (Nat.le_refl _) HR.out.2.2.lt HR.out.1 HR.out.2.1
    have R2 := u3 _ _ HR.out.2.2
    obtain ⟨s0, s1, s2, s3⟩ := R2.two
    obtain ⟨g0, g1, _, _⟩ := (R2.set2 (.func (.func c3) fi3 ca3) (.pointer p3)).two
    have HF : Hid (NxP g w v (.func (.func c) fi ca) (2 * B + 5) TT (.returned (.agg #[.func (.func c3) fi3 ca3, .pointer p3])) ((w2.setCell ⟨w.heap.size, 0, none⟩ (.func (.func c3) fi3 ca3)).setCell ⟨w.heap.size, 1, none⟩ (.pointer p3))) := ⟨g2, _, _, _, _, rfl, u1, u2⟩
    clear u1 u2 u3 hs2 hC2 HC R2
    go_wp2_with fail
    refine bodyPost_ret (v := .agg #[.func (.func c3) fi3 ca3, .pointer p3]) (by simp [results, Tryz.results52, go_sem, g0, g1]) rfl HF.out
  rw [hc9] at HI9 hK
  rw [if_neg (by simp)] at hK
  cases hc17 : va.is 17 4
  rotate_left
  · rw [hc17] at HI17 hK
    simp only [if_true] at hK
    have HC : Calls Tryz.prog 69 #[.pointer (some ⟨qv, 0, none⟩), .func (.func c) fi ca] W (NxP g W v (.func (.func c) fi ca) (2 * B + 5) TT) := count_any s B hD qv c fi ca va v g W hs0.inv hva hK
    clear hin hva hs0 hD hb R hK
    go_enter Tryz.func52, Tryz.ntmps52
    go_wp2_with (first | ((with_reducible refine HI5.mono ?_); rintro e w1 ⟨rfl, rfl⟩) | ((with_reducible refine HI8.mono ?_); rintro e w1 ⟨rfl, rfl⟩) | ((with_reducible refine HI9.mono ?_); rintro e w1 ⟨rfl, rfl⟩) | ((with_reducible refine HI17.mono ?_); rintro e w1 ⟨rfl, rfl⟩))
    refine HC.mono ?_
    rintro e w2 ⟨g2, c3, fi3, ca3, p3, rfl, hs2, hC2⟩
    obtain ⟨u1, u2, u3⟩ := nx_set HS.out hs2 hC2 (Nat.le_refl _) HR.out.2.2.lt HR.out.1 HR.out.2.1
    have R2 := u3 _ _ HR.out.2.2
    obtain ⟨s0, s1, s2, s3⟩ := R2.two
    obtain ⟨g0, g1, _, _⟩ := (R2.set2 (.func (.func c3) fi3 ca3) (.pointer p3)).two
    have HF : Hid (NxP g w v (.func (.func c) fi ca) (2 * B + 5) TT (.returned (.agg #[.func (.func c3) fi3 ca3, .pointer p3])) ((w2.setCell ⟨w.heap.size, 0, none⟩ (.func (.func c3) fi3 ca3)).setCell ⟨w.heap.size, 1, none⟩ (.pointer p3))) := ⟨g2, _, _, _, _, rfl, u1, u2⟩
    clear u1 u2 u3 hs2 hC2 HC R2
    go_wp2_with fail
    refine bodyPost_ret (v := .agg #[.func (.func c3) fi3 ca3, .pointer p3]) (by simp [results, Tryz.results52, go_sem, g0, g1]) rfl HF.out
  rw [hc17] at HI17 hK
  rw [if_neg (by simp)] at hK
  obtain rfl := Option.some.inj hK
  obtain ⟨s0, s1, _, _⟩ := (R.set2 (.func (.func c) fi ca) (.pointer (some ⟨qv, 0, none⟩))).two
  have HF : Hid (NxP g w va (.func (.func c) fi ca) (2 * B + 5) TT (.returned (.agg #[.func (.func c) fi ca, .pointer (some ⟨qv, 0, none⟩)])) ((W.setCell ⟨w.heap.size, 0, none⟩ (.func (.func c) fi ca)).setCell ⟨w.heap.size, 1, none⟩ (.pointer (some ⟨qv, 0, none⟩)))) :=
    nx_here _ (Ste.set2 HS.out (Nat.le_refl _) HR.out.1 HR.out.2.1 _ _) HV.out
  clear hin hva hs0 hD hb R hK
  go_enter Tryz.func52, Tryz.ntmps52
  go_wp2_with (first | ((with_reducible refine HI5.mono ?_); rintro e w1 ⟨rfl, rfl⟩) | ((with_reducible refine HI8.mono ?_); rintro e w1 ⟨rfl, rfl⟩) | ((with_reducible refine HI9.mono ?_); rintro e w1 ⟨rfl, rfl⟩) | ((with_reducible refine HI17.mono ?_); rintro e w1 ⟨rfl, rfl⟩))
  refine bodyPost_ret (v := .agg #[.func (.func c) fi ca, .pointer (some ⟨qv, 0, none⟩)]) (by simp [results, Tryz.results52, go_sem, s0, s1]) rfl HF.out

set_option maxHeartbeats 1000000 in
theorem of1_any (s B : Nat) (hD : DoingP s B) (b qv c : Nat) (fi ca : Array Value) (va v : V) (g : Gh) (w : World) (hin : Inv g w) (hbo : BlkO g w b #[ptr qv] 62) (hva : g.v qv = some va) (hK : settleV (ev s) va = some v) :
    Calls Tryz.prog 71 #[.func (.func c) fi ca, ptr b] w (NxP g w v (.func (.func c) fi ca) (2 * B + 5) TT) := by
  obtain ⟨W, hW, hb, R, hz⟩ := lay1 w #[.nilFunc, .pointer none] 81
  have hs0 := Ste.below hin hb
  obtain ⟨b0, _⟩ := (hbo.along (hs0.mor hin)).2.one
  have HC : Calls Tryz.prog 52 #[.pointer (some ⟨qv, 0, none⟩), .func (.func c) fi ca] W (NxP g W v (.func (.func c) fi ca) (2 * B + 5) TT) := settle_any s B hD qv c fi ca va v g W hs0.inv hva hK
  obtain ⟨r0, r1, r2, r3⟩ := R.two
  have HR : Hid (g.l w.heap.size = none ∧ ¬ g.o w.heap.size ∧ Blk W w.heap.size #[.nilFunc, .pointer none] 81) := ⟨hin.l_new (Nat.le_refl _), hin.o_new (Nat.le_refl _), R⟩
  have HS : Hid (Ste g w g W) := hs0
  unfold ptr at *
  clear hin hva hs0 hD hb R hK hbo
  go_enter Tryz.func71, Tryz.ntmps71
  go_wp2_with fail
  refine HC.mono ?_
  rintro e w2 ⟨g2, c3, fi3, ca3, p3, rfl, hs2, hC2⟩
  obtain ⟨u1, u2, u3⟩ := nx_set HS.out hs2 hC2 (Nat.le_refl _) HR.out.2.2.lt HR.out.1 HR.out.2.1
  have R2 := u3 _ _ HR.out.2.2
  obtain ⟨s0, s1, s2, s3⟩ := R2.two
  obtain ⟨g0, g1, _, _⟩ := (R2.set2 (.func (.func c3) fi3 ca3) (.pointer p3)).two
  have HF : Hid (NxP g w v (.func (.func c) fi ca) (2 * B + 5) TT (.returned (.agg #[.func (.func c3) fi3 ca3, .pointer p3])) ((w2.setCell ⟨w.heap.size, 0, none⟩ (.func (.func c3) fi3 ca3)).setCell ⟨w.heap.size, 1, none⟩ (.pointer p3))) := ⟨g2, _, _, _, _, rfl, u1, u2⟩
  clear u1 u2 u3 hs2 hC2 HC R2
  go_wp2_with fail
  refine bodyPost_ret (v := .agg #[.func (.func c3) fi3 ca3, .pointer p3]) (by simp [results, Tryz.results71, go_sem, g0, g1]) rfl HF.out

set_option maxHeartbeats 1000000 in
theorem came1_any (s B : Nat) (hD : DoingP s B) (b qv c : Nat) (fi ca : Array Value) (va v : V) (g : Gh) (w : World) (hin : Inv g w) (hbo : BlkO g w b #[ptr qv] 62) (hva : g.v qv = some va) (hK : countV (ev s) va = some v) :
    Calls Tryz.prog 111 #[.func (.func c) fi ca, ptr b] w (NxP g w v (.func (.func c) fi ca) (2 * B + 5) TT) := by
  obtain ⟨W, hW, hb, R, hz⟩ := lay1 w #[.nilFunc, .pointer none] 81
  have hs0 := Ste.below hin hb
  obtain ⟨b0, _⟩ := (hbo.along (hs0.mor hin)).2.one
  have HC : Calls Tryz.prog 69 #[.pointer (some ⟨qv, 0, none⟩), .func (.func c) fi ca] W (NxP g W v (.func (.func c) fi ca) (2 * B + 5) TT) := count_any s B hD qv c fi ca va v g W hs0.inv hva hK
  obtain ⟨r0, r1, r2, r3⟩ := R.two
  have HR : Hid (g.l w.heap.size = none ∧ ¬ g.o w.heap.size ∧ Blk W w.heap.size #[.nilFunc, .pointer none] 81) := ⟨hin.l_new (Nat.le_refl _), hin.o_new (Nat.le_refl _), R⟩
  have HS : Hid (Ste g w g W) := hs0
  unfold ptr at *
  clear hin hva hs0 hD hb R hK hbo
  go_enter Tryz.func111, Tryz.ntmps111
  go_wp2_with fail
  refine HC.mono ?_
  rintro e w2 ⟨g2, c3, fi3, ca3, p3, rfl, hs2, hC2⟩
  obtain ⟨u1, u2, u3⟩ := nx_set HS.out hs2 hC2 (Nat.le_refl _) HR.out.2.2.lt HR.out.1 HR.out.2.1
  have R2 := u3 _ _ HR.out.2.2
  obtain ⟨s0, s1, s2, s3⟩ := R2.two
  obtain ⟨g0, g1, _, _⟩ := (R2.set2 (.func (.func c3) fi3 ca3) (.pointer p3)).two
  have HF : Hid (NxP g w v (.func (.func c) fi ca) (2 * B + 5) TT (.returned (.agg #[.func (.func c3) fi3 ca3, .pointer p3])) ((w2.setCell ⟨w.heap.size, 0, none⟩ (.func (.func c3) fi3 ca3)).setCell ⟨w.heap.size, 1, none⟩ (.pointer p3))) := ⟨g2, _, _, _, _, rfl, u1, u2⟩
  clear u1 u2 u3 hs2 hC2 HC R2
  go_wp2_with fail
  refine bodyPost_ret (v := .agg #[.func (.func c3) fi3 ca3, .pointer p3]) (by simp [results, Tryz.results111, go_sem, g0, g1]) rfl HF.out
end Go.Proofs.YthfjmcomhccbaaaGreatDoor
