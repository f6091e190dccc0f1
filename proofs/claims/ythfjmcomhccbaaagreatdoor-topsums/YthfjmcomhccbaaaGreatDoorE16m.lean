/-
  Contracts: value, of variables and of declarations.
-/
/-
  Contracts: value, of all other terms.
-/
import Derived.Test.YthfjmcomhccbaaaGreatDoorE14m
namespace Go.Proofs.YthfjmcomhccbaaaGreatDoor
open Go.RowKit Tmx Evx
set_option maxRecDepth 60000

theorem mild_iff {n : Int} (h : mild n = true) : -1099511627776 ≤ n ∧ n ≤ 1099511627776 := by simpa [mild] using h

set_option maxHeartbeats 2000000 in
theorem valueVar_any (s B : Nat) (hD : DoingP s B) (pm tb to c : Nat) (fi ca : Array Value) (m : Mk) (n : Nat) (f : F) (p : Value) (env : List Th) (v : V) (g : Gh) (w : World) (hin : Inv g w) (hm : MkIs g w pm m) (ht : TmAt g.o w tb to 1 n f) (he : EnvIs g w p env)
    (hn : n ≤ 1099511627776) (hb0 : mild m.bound = true) (hK : ev s (meant m.bound n env) = some v) :
    Calls Tryz.prog 33 #[ptr pm, .pointer (some ⟨tb, to, none⟩), p, .func (.func c) fi ca] w (NxP g w v (.func (.func c) fi ca) (2 * B + 5) TT) := by
  obtain ⟨x0, rfl⟩ := he.pointer
  obtain ⟨W, hW, hb, R, hz⟩ := lay1 w #[.nilFunc, .pointer none] 81
  have hs0 := Ste.below hin hb
  have hm0 := hs0.mor hin
  obtain ⟨_, q, cap, t0, t1, t2, _⟩ := ht.mor hm0
  have HM : Calls Tryz.prog 31 #[.pointer (some ⟨pm, 0, none⟩), .int .i64 (n : Int), .pointer x0] W (LatP g W (meant m.bound n env)) :=
    meant_any pm m n (.pointer x0) env g W hs0.inv (hm.along hm0) (he.along hm0) hn hb0
  obtain ⟨r0, r1, r2, r3⟩ := R.two
  have HR : Hid (g.l w.heap.size = none ∧ ¬ g.o w.heap.size ∧ Blk W w.heap.size #[.nilFunc, .pointer none] 81) := ⟨hin.l_new (Nat.le_refl _), hin.o_new (Nat.le_refl _), R⟩
  have HS : Hid (Ste g w g W ∧ DoingP s B ∧ ev s (meant m.bound n env) = some v) := ⟨hs0, hD, hK⟩
  unfold ptr at *
  clear hin hm ht he hs0 hm0 hD hb R hK hn hb0 t2
  go_enter Tryz.func33, Tryz.ntmps33
  go_wp2_with fail
  refine HM.mono ?_
  rintro e w2 ⟨g2, b, rfl, hs2, hl2⟩
  have HA : Calls Tryz.prog 29 #[.pointer (some ⟨b, 0, none⟩), .func (.func c) fi ca] w2 (NxP g2 w2 v (.func (.func c) fi ca) (B + 2) (DN b)) := ask_any s B HS.out.2.1 b c fi ca _ v g2 w2 hs2.inv hl2 HS.out.2.2
  have HT2 : Hid (Ste g W g2 w2) := hs2
  clear hs2 hl2 HM
  unfold ptr
  go_wp2_with fail
  refine HA.mono ?_
  rintro e w3 ⟨g3, c4, fi4, ca4, p4, rfl, hs4, hC4⟩
  have hT := HT2.out.trans hs4
  obtain ⟨u1, u2, u3⟩ := nx_set HS.out.1 hT ((hC4.weak).more (B' := 2 * B + 5) (by omega)) (Nat.le_refl _) HR.out.2.2.lt HR.out.1 HR.out.2.1
  have R2 := u3 _ _ HR.out.2.2
  obtain ⟨s0, s1, s2, s3⟩ := R2.two
  obtain ⟨q0, q1, _, _⟩ := (R2.set2 (.func (.func c4) fi4 ca4) (.pointer p4)).two
  have HF : Hid (NxP g w v (.func (.func c) fi ca) (2 * B + 5) TT (.returned (.agg #[.func (.func c4) fi4 ca4, .pointer p4])) ((w3.setCell ⟨w.heap.size, 0, none⟩ (.func (.func c4) fi4 ca4)).setCell ⟨w.heap.size, 1, none⟩ (.pointer p4))) := ⟨g3, _, _, _, _, rfl, u1, u2⟩
  clear u1 u2 u3 hs4 hC4 HA R2 hT
  go_wp2_with fail
  refine bodyPost_ret (v := .agg #[.func (.func c4) fi4 ca4, .pointer p4]) (by simp [results, Tryz.results33, go_sem, q0, q1]) rfl HF.out

set_option maxHeartbeats 4000000 in
theorem valueDef_any (s B : Nat) (hD : DoingP s B) (pm tb to c : Nat) (fi ca : Array Value) (m : Mk) (n : Nat) (f : F) (p : Value) (env : List Th) (v : V) (d : Int × Int × F) (g : Gh) (w : World) (hin : Inv g w) (hm : MkIs g w pm m) (ht : TmAt g.o w tb to 18 n f) (he : EnvIs g w p env)
    (hd : m.D[n]? = some d) (hK : ev s (.tm ⟨m.b0, m.b0, m.D⟩ d.1 d.2.1 d.2.2 []) = some v) :
    Calls Tryz.prog 33 #[ptr pm, .pointer (some ⟨tb, to, none⟩), p, .func (.func c) fi ca] w (NxP g w v (.func (.func c) fi ca) (2 * B + 5) TT) := by
  obtain ⟨x0, rfl⟩ := he.pointer
  obtain ⟨W, hW, hb, R, hz⟩ := lay1 w #[.nilFunc, .pointer none] 81
  have hs0 := Ste.below hin hb
  have hm0 := hs0.mor hin
  obtain ⟨hot, q, cap, t0, t1, t2, _⟩ := ht.mor hm0
  have hlt : n < m.D.length := (List.getElem?_eq_some_iff.1 hd).1
  obtain ⟨pd, capd, hmb, hr, hod⟩ := hm.along hm0
  obtain ⟨k0, k1, _, _⟩ := hmb.2.two
  obtain ⟨bd, rfl, hobd⟩ := hod (by omega)
  obtain ⟨bd', bx, e, hc, hbx⟩ := hr.at (i := n) (t := .tm ⟨m.b0, m.b0, m.D⟩ d.1 d.2.1 d.2.2 []) (by simp [defsOf, hd])
  simp only [Option.some.injEq, Addr.mk.injEq] at e
  obtain ⟨rfl, _⟩ := e
  obtain ⟨r0, r1, r2, r3⟩ := R.two
  have HR : Hid (g.l w.heap.size = none ∧ ¬ g.o w.heap.size ∧ Blk W w.heap.size #[.nilFunc, .pointer none] 81) := ⟨hin.l_new (Nat.le_refl _), hin.o_new (Nat.le_refl _), R⟩
  have HS : Hid (Ste g w g W ∧ DoingP s B ∧ ev s (.tm ⟨m.b0, m.b0, m.D⟩ d.1 d.2.1 d.2.2 []) = some v ∧ g.l bx = some (.tm ⟨m.b0, m.b0, m.D⟩ d.1 d.2.1 d.2.2 [])) := ⟨hs0, hD, hK, hbx⟩
  obtain ⟨L, hL, hnL⟩ : ∃ L, m.D.length = L ∧ n < L := ⟨_, rfl, hlt⟩
  rw [hL] at k1
  have i1 : (0 : Int) ≤ (n : Int) := by omega
  have i2 : (n : Int) < (L : Int) := by omega
  have m1 : w.heap.size ≠ tb := fun e => HR.out.2.1 (e ▸ hot)
  have m2 : w.heap.size ≠ pm := fun e => HR.out.2.1 (e ▸ hmb.1)
  have m3 : w.heap.size ≠ bd := fun e => HR.out.2.1 (e ▸ hobd)
  have HO : Hid (g.o tb ∧ g.o pm ∧ g.o bd) := ⟨hot, hmb.1, hobd⟩
  unfold ptr at *
  clear hin hm ht he hs0 hm0 hD hb R hK hd hlt hmb hr hod hobd hbx hL hot t2
  go_enter Tryz.func33, Tryz.ntmps33
  go_wp2_with fail
  go_region
  obtain ⟨X, hX⟩ : ∃ X, W.drew = X := ⟨_, rfl⟩
  have HSX : Hid (Ste g w g X) := by rw [← hX]; exact HS.out.1.trans (.drew HS.out.1.inv)
  have HRX : Hid (Blk X w.heap.size #[.nilFunc, .pointer none] 81) := by rw [← hX]; exact HR.out.2.2
  have x1 : X.cell? ⟨tb, to + 1, none⟩ = some (.int .i64 (n : Int)) := by rw [← hX]; exact t1
  have x2 : X.cell? ⟨pm, 1, none⟩ = some (.slice (some ⟨bd, 0, none⟩) L capd) := by rw [← hX]; exact k1
  have x3 : X.cell? ⟨bd, n, none⟩ = some (.pointer (some ⟨bx, 0, none⟩)) := by rw [← hX]; exact hc
  rw [hX]
  obtain ⟨y0, y1, y2, y3⟩ := HRX.out.two
  have hd2 := Ste.drew HSX.out.inv
  have HA : Calls Tryz.prog 29 #[.pointer (some ⟨bx, 0, none⟩), .func (.func c) fi ca] X.drew (NxP g X.drew v (.func (.func c) fi ca) (B + 2) (DN bx)) := ask_any s B HS.out.2.1 bx c fi ca _ v g X.drew hd2.inv HS.out.2.2.2 HS.out.2.2.1
  have HD2 : Hid (Ste g X g X.drew) := hd2
  clear hX hW hd2 t0 t1 k0 k1 hc r0 r1 r2 r3
  go_wp2_with fail
  go_region_held3 (fun w' => w'.cell? ⟨tb, to + 1, none⟩ = some (.int .i64 (n : Int)) ∧ w'.cell? ⟨pm, 1, none⟩ = some (.slice (some ⟨bd, 0, none⟩) L capd) ∧ w'.cell? ⟨bd, n, none⟩ = some (.pointer (some ⟨bx, 0, none⟩))) (go_keep)
    (first
      | (go_at_call 29; refine HA.mono ?_; rintro e w3 ⟨g3, c4, fi4, ca4, p4, rfl, hs4, hC4⟩; have hm4 := hs4.mor HD2.out.inv; have e1 := hm4.put HO.out.1 x1; have e2 := hm4.put HO.out.2.1 x2; have e3 := hm4.put HO.out.2.2 x3; have HT : Hid (Ste g X g3 w3) := HD2.out.trans hs4; have HR3 := HRX.out.of_eq (HT.out.keep.block _ HRX.out.lt HR.out.1); obtain ⟨q0, q1, q2, q3⟩ := HR3.two))
  obtain ⟨u1, u2, _⟩ := nx_set HSX.out HT.out ((hC4.weak).more (B' := 2 * B + 5) (by omega)) (Nat.le_refl _) HRX.out.lt HR.out.1 HR.out.2.1
  obtain ⟨s0, s1, _, _⟩ := (HR3.set2 (.func (.func c4) fi4 ca4) (.pointer p4)).two
  have HF : Hid (NxP g w v (.func (.func c) fi ca) (2 * B + 5) TT (.returned (.agg #[.func (.func c4) fi4 ca4, .pointer p4])) ((w3.setCell ⟨w.heap.size, 0, none⟩ (.func (.func c4) fi4 ca4)).setCell ⟨w.heap.size, 1, none⟩ (.pointer p4))) := ⟨g3, c4, fi4, ca4, p4, rfl, u1, u2⟩
  go_wp2_with fail
  refine bodyPost_ret (v := .agg #[.func (.func c4) fi4 ca4, .pointer p4]) (by simp [results, Tryz.results33, go_sem, s0, s1]) rfl HF.out
end Go.Proofs.YthfjmcomhccbaaaGreatDoor

namespace Go.Proofs.YthfjmcomhccbaaaGreatDoor
open Go.RowKit Tmx Evx
set_option maxRecDepth 60000

theorem uArgs : Tryz.prog.underlying 86 = some (.slice 91) := by kernel_rfl
theorem iArgs : (Tryz.prog.info? 91).map (fun i => (i.zero, i.size, i.bytes)) = some (some (.agg #[.pointer none, .nilFunc]), 2, 16) := by kernel_rfl
/-- The cells of c new arguments. -/
def noArgs (c : Nat) : Array Value := madeCells #[.pointer none, .nilFunc] (c * 2)
theorem makeArgs (c : Nat) (h : c ≤ 1099511627776) (W : World) :
    (Instr.makeSlice 86 (.int .i64 c) (.int .i64 c)).run Tryz.prog W = .ok (.slice (some ⟨W.heap.size, 0, none⟩) c c) (W.alloc (.cells (noArgs c) 91)) := by
  obtain ⟨i, hi, he⟩ := Option.map_eq_some_iff.1 iArgs
  simp only [Prod.mk.injEq] at he
  obtain ⟨hz, hs, hb⟩ := he
  have := run_make (P := Tryz.prog) W 86 91 i _ uArgs hi hz .i64 .i64 (c : Int) (c : Int) (by omega) (by omega) (by rw [hb]; omega) (by omega)
  rw [hs, Int.toNat_natCast] at this
  exact this
theorem noArgs_row (c : Nat) (w : World) : ∃ G, (w.alloc (.cells (noArgs c) 91)).rowIs w.heap.size 91 (c * 2) G := by
  have h := World.rowIs_alloc w (noArgs c) 91 (fun i => (noArgs c)[i]?.getD .nilFunc) (fun i hi => by simp [hi])
  rw [show (noArgs c).size = c * 2 from size_madeCells _ _] at h
  exact ⟨_, h⟩

theorem argsOf_at (m : Mk) (env : List Th) (K : Int) : ∀ (j : Nat) (i : Int) (f : F) {x y : Nat} {k n : Int} {l r : F}, drop j f = .node x y (k, n) l r → (argsOf m env K i f)[j]? = some (argOf m k n l env (bindsAt K (i + j)))
  | 0, i, .nil, _, _, _, _, _, _, h => by simp [drop] at h
  | 0, i, .node _ _ a l r, _, _, _, _, _, _, h => by
    simp only [drop, Go.Deep.BT.node.injEq] at h
    obtain ⟨_, _, rfl, rfl, rfl⟩ := h
    simp [argsOf]
  | j + 1, i, .nil, _, _, _, _, _, _, h => by simp [drop] at h
  | j + 1, i, .node _ _ _ _ r', _, _, _, _, _, _, h => by
    rw [drop] at h
    have := argsOf_at m env K j (i + 1) r' h
    rw [argsOf, List.getElem?_cons_succ, this]
    congr 2
    rw [show i + 1 + (j : Int) = i + ((j + 1 : Nat) : Int) by omega]
theorem argsOf_len (m : Mk) (env : List Th) (K : Int) : ∀ (i : Int) (f : F), (argsOf m env K i f).length = len f
  | _, .nil => rfl
  | i, .node _ _ a l r => by rw [argsOf, List.length_cons, argsOf_len m env K (i + 1) r, len]
theorem fine_at : ∀ (j : Nat) (f : F) {x y : Nat} {k n : Int} {l r : F}, fine f = true → drop j f = .node x y (k, n) l r → k = 1 → 0 ≤ n ∧ mild n = true
  | 0, .nil, _, _, _, _, _, _, _, h => by simp [drop] at h
  | 0, .node _ _ a l r, _, _, _, _, _, _, hf, h => by
    simp only [drop, Go.Deep.BT.node.injEq] at h
    obtain ⟨_, _, rfl, rfl, rfl⟩ := h
    intro hk
    subst hk
    simp only [fine, bne_self_eq_false, Bool.false_or, Bool.and_eq_true, decide_eq_true_eq] at hf
    exact hf.1
  | j + 1, .nil, _, _, _, _, _, _, _, h => by simp [drop] at h
  | j + 1, .node _ _ _ _ r', _, _, _, _, _, _, hf, h => by
    rw [drop] at h
    rw [fine, Bool.and_eq_true] at hf
    exact fine_at j r' hf.2 h

theorem Mor.setCell {g : Gh} {w : World} {x : Addr} (ho : ¬ g.o x.block) (v : Value) : Mor g w g (w.setCell x v) :=
  ⟨fun _ _ e => e, fun _ _ e => e, fun _ e => e, fun _ hk => Below.heap_setCell _ _ _ _ (fun e => ho (e ▸ hk))⟩

set_option maxHeartbeats 8000000 in
theorem valueTm_any (s B : Nat) (hD : DoingP s B) (pm tb to c : Nat) (fi ca : Array Value) (m : Mk) (k n : Int) (f : F) (p : Value) (env : List Th) (v : V) (g : Gh) (w : World) (hin : Inv g w) (hm : MkIs g w pm m) (ht : TmAt g.o w tb to k n f) (he : EnvIs g w p env)
    (hk1 : k ≠ 1) (hk18 : k ≠ 18) (hfine : fine f = true) (hb0 : mild m.bound = true) (hlen : len f ≤ 1000) (hK : settleV (ev s) (.mk k n (argsOf m env k 0 f)) = some v) :
    Calls Tryz.prog 33 #[ptr pm, .pointer (some ⟨tb, to, none⟩), p, .func (.func c) fi ca] w (NxP g w v (.func (.func c) fi ca) (2 * B + 5) TT) := by
  obtain ⟨x0, rfl⟩ := he.pointer
  obtain ⟨W, hW, hb, R, hz⟩ := lay1 w #[.nilFunc, .pointer none] 81
  have hs0 := Ste.below hin hb
  have hm0 := hs0.mor hin
  obtain ⟨hot, q, cap, t0, t1, t2, hsl⟩ := ht.mor hm0
  have e1 : (k == 1) = false := by simpa using hk1
  have e18 : (k == 18) = false := by simpa using hk18
  obtain ⟨r0, r1, r2, r3⟩ := R.two
  have HR : Hid (g.l w.heap.size = none ∧ ¬ g.o w.heap.size ∧ Blk W w.heap.size #[.nilFunc, .pointer none] 81) := ⟨hin.l_new (Nat.le_refl _), hin.o_new (Nat.le_refl _), R⟩
  have HS : Hid (Ste g w g W ∧ DoingP s B ∧ settleV (ev s) (.mk k n (argsOf m env k 0 f)) = some v ∧ MkIs g W pm m ∧ EnvIs g W (.pointer x0) env ∧ g.o tb ∧ SlO g.o W q f ∧ fine f = true ∧ mild m.bound = true) := ⟨hs0, hD, hK, hm.along hm0, he.along hm0, hot, hsl, hfine, hb0⟩
  have HT : Hid (TmAt g.o W tb to k n f) := ht.mor hm0
  have hmk := makeArgs (len f) (by omega)
  have m1 : w.heap.size ≠ tb := fun e => HR.out.2.1 (e ▸ hot)
  have ltb := (hs0.inv.o _ hot).2
  unfold ptr at *
  clear hin hm ht he hs0 hm0 hD hb R hK hot hsl hfine hb0 hk1 hk18
  go_enter Tryz.func33, Tryz.ntmps33
  go_wp2_with fail
  go_region
  go_wp2_with fail
  have n1 : tb ≠ W.heap.size := by omega
  go_region_held3 (fun w' => w'.cell? ⟨tb, to, none⟩ = some (.int .i64 k) ∧ w'.cell? ⟨tb, to + 1, none⟩ = some (.int .i64 n) ∧ w'.cell? ⟨tb, to + 2, none⟩ = some (.slice q (len f) cap)) (go_keep) (first | fail)
  obtain ⟨X, hX⟩ : ∃ X, ((W.alloc (.cells (noArgs (len f)) 91)).alloc (.cells #[.int .i64 k, .int .i64 n, .slice (some ⟨w.heap.size + 1, 0, none⟩) (len f) (len f)] 88)).drew.drew = X := ⟨_, rfl⟩
  have hBX : Below W.heap.size W X := by
    rw [← hX]
    exact (((Below.refl _ _).alloc (Nat.le_refl _) _).alloc (by simp) _).drew.drew
  have hVX : Blk X (w.heap.size + 1 + 1) #[.int .i64 k, .int .i64 n, .slice (some ⟨w.heap.size + 1, 0, none⟩) (len f) (len f)] 88 := by
    have := Blk.new (W.alloc (.cells (noArgs (len f)) 91)) #[.int .i64 k, .int .i64 n, .slice (some ⟨w.heap.size + 1, 0, none⟩) (len f) (len f)] 88
    rw [World.size_alloc, hz] at this
    rw [← hX]; exact this
  have hGX : ∃ G, X.rowIs (w.heap.size + 1) 91 (len f * 2) G := by
    obtain ⟨G, hG⟩ := noArgs_row (len f) W
    rw [hz] at hG
    exact ⟨G, by rw [← hX]; exact hG.alloc _⟩
  have hsX : Ste g W g X := .below HS.out.1.inv hBX
  have hfree : ∀ b, W.heap.size ≤ b → g.l b = none ∧ ¬ g.o b := fun b h => ⟨HS.out.1.inv.l_new h, HS.out.1.inv.o_new h⟩
  rw [hX]
  have x0' : X.cell? ⟨tb, to, none⟩ = some (.int .i64 k) := by rw [hBX.cell (p := ⟨tb, to, none⟩) ltb]; exact t0
  have x2' : X.cell? ⟨tb, to + 2, none⟩ = some (.slice q (len f) cap) := by rw [hBX.cell (p := ⟨tb, to + 2, none⟩) ltb]; exact t2
  clear hX hW hmk
  go_wp2_with fail
  go_loopg [82] (len f) (fun gg i wr => ∃ (j : Nat) (g1 : Gh) (G : Nat → Value), gg = len f - j ∧ j ≤ len f ∧ i = .int .i64 (j : Int) ∧ Ste g W g1 wr ∧ (g1.l (w.heap.size + 1) = none ∧ ¬ g1.o (w.heap.size + 1)) ∧ (g1.l (w.heap.size + 1 + 1) = none ∧ ¬ g1.o (w.heap.size + 1 + 1)) ∧
    Blk wr (w.heap.size + 1 + 1) #[.int .i64 k, .int .i64 n, .slice (some ⟨w.heap.size + 1, 0, none⟩) (len f) (len f)] 88 ∧ wr.rowIs (w.heap.size + 1) 91 (len f * 2) G ∧
    Hid (∀ (i : Nat) (a : Ar), i < j → (argsOf m env k 0 f)[i]? = some a → ArIs g1 wr (G (2 * i)) (G (2 * i + 1)) a))
  case atStart =>
    obtain ⟨G, hG⟩ := hGX
    exact ⟨0, g, G, rfl, Nat.zero_le _, rfl, hsX, hfree _ (by omega), hfree _ (by omega), hVX, hG, fun i a h => absurd h (by omega)⟩
  case round =>
    clear hBX hVX hGX hsX hfree x0' x2'
    obtain ⟨j, g1, G, hgg, hj, rfl, hs1, hr1, hv1, hVw, hGw, hA⟩ := hrel
    have hm1 := hs1.mor HS.out.1.inv
    have y0 := hm1.put HS.out.2.2.2.2.2.1 t0
    have y2 := hm1.put HS.out.2.2.2.2.2.1 t2
    by_cases hlt : j < len f
    · obtain ⟨b, o, x, y, k', n', l, r, rfl, hdrop, hTA⟩ := HS.out.2.2.2.2.2.2.1.at hlt
      have HDr : Hid (drop j f = .node x y (k', n') l r) := hdrop
      have hdr := Ste.drew hs1.inv
      have hmd := hm1.trans (hdr.mor hs1.inv)
      have HB : Calls Tryz.prog 51 #[.int .i64 k, .int .i64 (j : Int)] wr.drew fun e w' => e = .returned (.int .i64 (bindsAt k j)) ∧ w' = wr.drew := bindsAt_any k j wr.drew
      have HA : Calls Tryz.prog 50 #[.pointer (some ⟨pm, 0, none⟩), .pointer (some ⟨b, o + j * 3, none⟩), .pointer x0, .int .i64 (bindsAt k j)] wr.drew fun e w' => ∃ g' x u, e = .returned (.agg #[x, u]) ∧ Ste g1 wr.drew g' w' ∧ ArIs g' w' x u (argOf m k' n' l env (bindsAt k j)) :=
        arg_any pm b (o + j * 3) m k' n' (bindsAt k j) l (.pointer x0) env g1 wr.drew hdr.inv (HS.out.2.2.2.1.along hmd) (hTA.mor hmd) (HS.out.2.2.2.2.1.along hmd) (fun hk => by
          obtain ⟨h1, h2⟩ := fine_at j f HS.out.2.2.2.2.2.2.2.1 hdrop hk
          exact ⟨h1, (mild_iff h2).2, HS.out.2.2.2.2.2.2.2.2⟩)
      have HW : Hid (Ste g1 wr g1 wr.drew ∧ g1.o tb) := ⟨hdr, hm1.o _ HS.out.2.2.2.2.2.1⟩
      have HW1 : Hid (Ste g W g1 wr.drew) := hs1.trans hdr
      have HV : Hid (g1.l (w.heap.size + 1 + 1) = none ∧ ¬ g1.o (w.heap.size + 1 + 1) ∧ Blk wr (w.heap.size + 1 + 1) #[.int .i64 k, .int .i64 n, .slice (some ⟨w.heap.size + 1, 0, none⟩) (len f) (len f)] 88) := ⟨hv1.1, hv1.2, hVw⟩
      have HRow : Hid (g1.l (w.heap.size + 1) = none ∧ ¬ g1.o (w.heap.size + 1) ∧ wr.rowIs (w.heap.size + 1) 91 (len f * 2) G) := ⟨hr1.1, hr1.2, hGw⟩
      have v2 := hVw.three.2.2.1
      have nt1 : w.heap.size + 1 ≠ tb := by omega
      have nt2 : tb ≠ w.heap.size + 1 := by omega
      have i1 : (0 : Int) ≤ (j : Int) := by omega
      have i2 : (j : Int) < (len f : Int) := by omega
      clear hdrop hTA hdr hmd hm1 hs1 hr1 hv1 hVw hGw
      by_cases hbz0 : bindsAt k j = 0
      · have HBZ : Hid (bindsAt k j = 0) := hbz0
        clear hbz0
        go_wp2_with fail
        go_region_held3 (fun w' => w'.cell? ⟨w.heap.size + 1 + 1, 2, none⟩ = some (.slice (some ⟨w.heap.size + 1, 0, none⟩) (len f) (len f)) ∧ w'.cell? ⟨tb, to + 2, none⟩ = some (.slice (some ⟨b, o, none⟩) (len f) cap) ∧ w'.cell? ⟨tb, to, none⟩ = some (.int .i64 k)) (go_keep)
          (first
            | (go_at_call 51; refine HB.mono ?_; rintro e w2 ⟨rfl, rfl⟩)
            | (go_at_call 50; refine HA.mono ?_; rintro e w3 ⟨g2, xa, ua, rfl, hs2, hAr⟩; rw [argOf, if_pos HBZ.out] at hAr; obtain ⟨⟨bp, rfl, hbp⟩, rfl⟩ := hAr; have hm2 := hs2.mor HW.out.1.inv; have z0 := hm2.put HW.out.2 y0; have z2 := hm2.put HW.out.2 y2; have hmv := hs2.keep.blk HV.out.2.2 HV.out.1; have zv := hmv.three.2.2.1; have hrow : w3.rowIs (w.heap.size + 1) 91 (len f * 2) G := World.rowIs.of_block (w := wr) HRow.out.2.2 (hs2.keep.block _ HRow.out.2.2.lt HRow.out.1); have c0 := hrow.cell (i := j * 2) (by omega); have c1 := hrow.cell (i := j * 2 + 1) (by omega); have f0 := hrow.frozen (j * 2); have f1 := hrow.frozen (j * 2 + 1); have HT3 : Hid (Ste g W g2 w3) := HW1.out.trans hs2; have HQ : Hid ((g2.l (w.heap.size + 1) = none ∧ ¬ g2.o (w.heap.size + 1)) ∧ (g2.l (w.heap.size + 1 + 1) = none ∧ ¬ g2.o (w.heap.size + 1 + 1)) ∧ Blk w3 (w.heap.size + 1 + 1) #[.int .i64 k, .int .i64 n, .slice (some ⟨w.heap.size + 1, 0, none⟩) (len f) (len f)] 88 ∧ Mor g1 wr.drew g2 w3) := ⟨⟨hs2.le.ln _ HRow.out.2.2.lt HRow.out.1, fun e => HRow.out.2.1 (hs2.le.on _ HRow.out.2.2.lt e)⟩, ⟨hs2.le.ln _ HV.out.2.2.lt HV.out.1, fun e => HV.out.2.1 (hs2.le.on _ HV.out.2.2.lt e)⟩, hmv, hm2⟩; unfold ptr))
        have HAr : Hid (ArIs g2 w3 (.pointer (some ⟨bp, 0, none⟩)) (.nilFunc) (argOf m k' n' l env (bindsAt k j))) := by
          show ArIs _ _ _ _ _
          rw [argOf, if_pos HBZ.out]; exact ⟨⟨bp, rfl, hbp⟩, rfl⟩
        go_wp2_with fail
        go_roundg (len f - (j + 1))
        case measure => rw [hgg]; omega
        case rel =>
          obtain ⟨⟨q1, q2⟩, ⟨q3, q4⟩, q5, q6⟩ := HQ.out
          have mm : Mor g2 w3 g2 ((w3.setCell ⟨w.heap.size + 1, j * 2, none⟩ (.pointer (some ⟨bp, 0, none⟩))).setCell ⟨w.heap.size + 1, j * 2 + 1, none⟩ (.nilFunc)) := (Mor.setCell (x := ⟨w.heap.size + 1, j * 2, none⟩) q2 _).trans (Mor.setCell (x := ⟨w.heap.size + 1, j * 2 + 1, none⟩) q2 _)
          refine ⟨j + 1, g2, _, rfl, hlt, by go_num, ?_, ⟨q1, q2⟩, ⟨q3, q4⟩, ?_, (hrow.set (j * 2) (.pointer (some ⟨bp, 0, none⟩))).set (j * 2 + 1) (.nilFunc), ?_⟩
          · exact Ste.setCell (Ste.setCell HT3.out (x := ⟨w.heap.size + 1, j * 2, none⟩) (by show W.heap.size ≤ w.heap.size + 1; omega) q1 q2 _) (x := ⟨w.heap.size + 1, j * 2 + 1, none⟩) (by show W.heap.size ≤ w.heap.size + 1; omega) q1 q2 _
          · exact (q5.setOther (x := ⟨w.heap.size + 1, j * 2, none⟩) (by show w.heap.size + 1 + 1 ≠ w.heap.size + 1; omega) _).setOther (x := ⟨w.heap.size + 1, j * 2 + 1, none⟩) (by show w.heap.size + 1 + 1 ≠ w.heap.size + 1; omega) _
          · intro i a hi hia
            by_cases hij : i < j
            · have := (hA.out i a hij hia).along (w' := (w3.setCell ⟨w.heap.size + 1, j * 2, none⟩ (.pointer (some ⟨bp, 0, none⟩))).setCell ⟨w.heap.size + 1, j * 2 + 1, none⟩ (.nilFunc)) (Mor.trans (Mor.trans (show Mor g1 wr g1 wr.drew from ⟨fun _ _ e => e, fun _ _ e => e, fun _ e => e, fun _ _ => rfl⟩) q6) mm)
              show ArIs _ _ _ _ _
              rw [if_neg (by omega), if_neg (by omega), if_neg (by omega), if_neg (by omega)]
              exact this
            · have hij2 : i = j := by omega
              subst hij2
              rw [argsOf_at m env k i 0 f HDr.out] at hia
              obtain rfl := Option.some.inj hia
              show ArIs _ _ _ _ _
              rw [if_neg (by omega), if_pos (by omega), if_pos (by omega)]
              have := HAr.out.along mm
              rw [Int.zero_add]
              exact this
      · have HBZ : Hid (¬ bindsAt k j = 0) := hbz0
        clear hbz0
        go_wp2_with fail
        go_region_held3 (fun w' => w'.cell? ⟨w.heap.size + 1 + 1, 2, none⟩ = some (.slice (some ⟨w.heap.size + 1, 0, none⟩) (len f) (len f)) ∧ w'.cell? ⟨tb, to + 2, none⟩ = some (.slice (some ⟨b, o, none⟩) (len f) cap) ∧ w'.cell? ⟨tb, to, none⟩ = some (.int .i64 k)) (go_keep)
          (first
            | (go_at_call 51; refine HB.mono ?_; rintro e w2 ⟨rfl, rfl⟩)
            | (go_at_call 50; refine HA.mono ?_; rintro e w3 ⟨g2, xa, ua, rfl, hs2, hAr⟩; rw [argOf, if_neg HBZ.out] at hAr; obtain ⟨rfl, bi, bm, bt, rfl, hcap⟩ := hAr; have hm2 := hs2.mor HW.out.1.inv; have z0 := hm2.put HW.out.2 y0; have z2 := hm2.put HW.out.2 y2; have hmv := hs2.keep.blk HV.out.2.2 HV.out.1; have zv := hmv.three.2.2.1; have hrow : w3.rowIs (w.heap.size + 1) 91 (len f * 2) G := World.rowIs.of_block (w := wr) HRow.out.2.2 (hs2.keep.block _ HRow.out.2.2.lt HRow.out.1); have c0 := hrow.cell (i := j * 2) (by omega); have c1 := hrow.cell (i := j * 2 + 1) (by omega); have f0 := hrow.frozen (j * 2); have f1 := hrow.frozen (j * 2 + 1); have HT3 : Hid (Ste g W g2 w3) := HW1.out.trans hs2; have HQ : Hid ((g2.l (w.heap.size + 1) = none ∧ ¬ g2.o (w.heap.size + 1)) ∧ (g2.l (w.heap.size + 1 + 1) = none ∧ ¬ g2.o (w.heap.size + 1 + 1)) ∧ Blk w3 (w.heap.size + 1 + 1) #[.int .i64 k, .int .i64 n, .slice (some ⟨w.heap.size + 1, 0, none⟩) (len f) (len f)] 88 ∧ Mor g1 wr.drew g2 w3) := ⟨⟨hs2.le.ln _ HRow.out.2.2.lt HRow.out.1, fun e => HRow.out.2.1 (hs2.le.on _ HRow.out.2.2.lt e)⟩, ⟨hs2.le.ln _ HV.out.2.2.lt HV.out.1, fun e => HV.out.2.1 (hs2.le.on _ HV.out.2.2.lt e)⟩, hmv, hm2⟩; unfold ptr))
        have HAr : Hid (ArIs g2 w3 (.pointer none) (.func (.func 65) #[] #[.pointer (some ⟨bi, 0, none⟩), .pointer (some ⟨bm, 0, none⟩), .pointer (some ⟨bt, 0, none⟩)]) (argOf m k' n' l env (bindsAt k j))) := by
          show ArIs _ _ _ _ _
          rw [argOf, if_neg HBZ.out]; exact ⟨rfl, bi, bm, bt, rfl, hcap⟩
        go_wp2_with fail
        go_roundg (len f - (j + 1))
        case measure => rw [hgg]; omega
        case rel =>
          obtain ⟨⟨q1, q2⟩, ⟨q3, q4⟩, q5, q6⟩ := HQ.out
          have mm : Mor g2 w3 g2 ((w3.setCell ⟨w.heap.size + 1, j * 2, none⟩ (.pointer none)).setCell ⟨w.heap.size + 1, j * 2 + 1, none⟩ (.func (.func 65) #[] #[.pointer (some ⟨bi, 0, none⟩), .pointer (some ⟨bm, 0, none⟩), .pointer (some ⟨bt, 0, none⟩)])) := (Mor.setCell (x := ⟨w.heap.size + 1, j * 2, none⟩) q2 _).trans (Mor.setCell (x := ⟨w.heap.size + 1, j * 2 + 1, none⟩) q2 _)
          refine ⟨j + 1, g2, _, rfl, hlt, by go_num, ?_, ⟨q1, q2⟩, ⟨q3, q4⟩, ?_, (hrow.set (j * 2) (.pointer none)).set (j * 2 + 1) (.func (.func 65) #[] #[.pointer (some ⟨bi, 0, none⟩), .pointer (some ⟨bm, 0, none⟩), .pointer (some ⟨bt, 0, none⟩)]), ?_⟩
          · exact Ste.setCell (Ste.setCell HT3.out (x := ⟨w.heap.size + 1, j * 2, none⟩) (by show W.heap.size ≤ w.heap.size + 1; omega) q1 q2 _) (x := ⟨w.heap.size + 1, j * 2 + 1, none⟩) (by show W.heap.size ≤ w.heap.size + 1; omega) q1 q2 _
          · exact (q5.setOther (x := ⟨w.heap.size + 1, j * 2, none⟩) (by show w.heap.size + 1 + 1 ≠ w.heap.size + 1; omega) _).setOther (x := ⟨w.heap.size + 1, j * 2 + 1, none⟩) (by show w.heap.size + 1 + 1 ≠ w.heap.size + 1; omega) _
          · intro i a hi hia
            by_cases hij : i < j
            · have := (hA.out i a hij hia).along (w' := (w3.setCell ⟨w.heap.size + 1, j * 2, none⟩ (.pointer none)).setCell ⟨w.heap.size + 1, j * 2 + 1, none⟩ (.func (.func 65) #[] #[.pointer (some ⟨bi, 0, none⟩), .pointer (some ⟨bm, 0, none⟩), .pointer (some ⟨bt, 0, none⟩)])) (Mor.trans (Mor.trans (show Mor g1 wr g1 wr.drew from ⟨fun _ _ e => e, fun _ _ e => e, fun _ e => e, fun _ _ => rfl⟩) q6) mm)
              show ArIs _ _ _ _ _
              rw [if_neg (by omega), if_neg (by omega), if_neg (by omega), if_neg (by omega)]
              exact this
            · have hij2 : i = j := by omega
              subst hij2
              rw [argsOf_at m env k i 0 f HDr.out] at hia
              obtain rfl := Option.some.inj hia
              show ArIs _ _ _ _ _
              rw [if_neg (by omega), if_pos (by omega), if_pos (by omega)]
              have := HAr.out.along mm
              rw [Int.zero_add]
              exact this
    · obtain ⟨cs, hcs, hcn, hcc⟩ := hGw
      have hal := argsOf_len m env k 0 f
      have h1 := hs1.addO (fun b => b = w.heap.size + 1) (fun b h => by subst h; exact ⟨by omega, (show Blk wr (w.heap.size + 1) cs 91 from hcs).lt, hr1.1⟩)
      have hn2 : (g1.addO (fun b => b = w.heap.size + 1)).v (w.heap.size + 1 + 1) = none := by
        show g1.v _ = none
        cases e : g1.v (w.heap.size + 1 + 1) with
        | none => rfl
        | some v => exact absurd (hs1.inv.vo e) hv1.2
      have m2 : Mor g1 wr ((g1.addO (fun b => b = w.heap.size + 1)).addV (w.heap.size + 1 + 1) (.mk k n (argsOf m env k 0 f))) wr := (Mor.addO _).trans (.addV hn2)
      have h2 := h1.addV (b := w.heap.size + 1 + 1) (v := .mk k n (argsOf m env k 0 f)) (by omega) hn2 hv1.1 (by
        refine ⟨some ⟨w.heap.size + 1, 0, none⟩, len f, ⟨.inr rfl, ?_⟩, fun _ => ⟨w.heap.size + 1, cs, rfl, ⟨.inl (.inr rfl), hcs⟩, fun i a hia => ?_⟩⟩
        · show Blk wr _ #[.int .i64 k, .int .i64 n, .slice (some ⟨w.heap.size + 1, 0, none⟩) (argsOf m env k 0 f).length (len f)] _
          rw [hal]; exact hVw
        · have hi : i < len f := by rw [← hal]; exact (List.getElem?_eq_some_iff.1 hia).1
          exact ⟨_, _, hcc (2 * i) (by omega), hcc (2 * i + 1) (by omega), (hA.out i a (by omega) hia).along m2⟩)
      have HC : Calls Tryz.prog 52 #[.pointer (some ⟨w.heap.size + 1 + 1, 0, none⟩), .func (.func c) fi ca] wr (NxP _ wr v (.func (.func c) fi ca) (2 * B + 5) TT) :=
        settle_any s B HS.out.2.1 (w.heap.size + 1 + 1) c fi ca _ v _ wr h2.inv (Gh.addV_at _ _ _) HS.out.2.2.1
      have HT2 : Hid (Ste g W ((g1.addO (fun b => b = w.heap.size + 1)).addV (w.heap.size + 1 + 1) (.mk k n (argsOf m env k 0 f))) wr) := h2
      have hRw := hs1.keep.blk HR.out.2.2 HR.out.1
      obtain ⟨a0, a1, a2, a3⟩ := hRw.two
      clear hcs hcn hcc hal h1 hn2 m2 h2 hs1 hr1 hv1 hVw hA hm1 hgg hRw
      go_wp2_with fail
      refine HC.mono ?_
      rintro e w3 ⟨g3, c4, fi4, ca4, p4, rfl, hs4, hC4⟩
      have hT := HT2.out.trans hs4
      obtain ⟨u1, u2, u3⟩ := nx_set HS.out.1 hT hC4 (Nat.le_refl _) HR.out.2.2.lt HR.out.1 HR.out.2.1
      have R2 := u3 _ _ HR.out.2.2
      obtain ⟨s0, s1, s2, s3⟩ := R2.two
      obtain ⟨q0, q1, _, _⟩ := (R2.set2 (.func (.func c4) fi4 ca4) (.pointer p4)).two
      have HF : Hid (NxP g w v (.func (.func c) fi ca) (2 * B + 5) TT (.returned (.agg #[.func (.func c4) fi4 ca4, .pointer p4])) ((w3.setCell ⟨w.heap.size, 0, none⟩ (.func (.func c4) fi4 ca4)).setCell ⟨w.heap.size, 1, none⟩ (.pointer p4))) := ⟨g3, _, _, _, _, rfl, u1, u2⟩
      clear u1 u2 u3 hs4 hC4 HC R2 hT
      go_wp2_with fail
      refine bodyPost_ret (v := .agg #[.func (.func c4) fi4 ca4, .pointer p4]) (by simp [results, Tryz.results33, go_sem, q0, q1]) rfl HF.out
end Go.Proofs.YthfjmcomhccbaaaGreatDoor
