/-
  Contracts: asTypes.
-/
import Derived.Test.YthfjmcomhccbaaaGreatDoorC0m
import Derived.Deep.RegionHeld3
import Derived.Deep.CutRange
namespace Go.Proofs.YthfjmcomhccbaaaGreatDoor
open Go.RowKit Tmx Evx
set_option maxRecDepth 60000

theorem row1 {g : Gh} {q : Nat} {u : Th} (h : g.l q = some u) (i : Nat) (t : Th) (e : [u][i]? = some t) : ∃ x, (#[.pointer (some ⟨q, 0, none⟩)] : Array Value)[i]? = some x ∧ PL g x t := by
  cases i with
  | zero =>
    obtain rfl : u = t := by simpa using e
    exact ⟨_, rfl, q, rfl, h⟩
  | succ i => simp at e

set_option maxHeartbeats 8000000 in
theorem asTypes_any (s bh qa qb n : Nat) (ta tb : Th) (L : List (Th × Th)) (c : Nat) (g0 g : Gh) (w0 w : World) (hs : Ste g0 w0 g w) (hH : HoldAt g w0 w bh n L c) (ha : g.l qa = some ta) (hb : g.l qb = some tb)
    (hL : L.length ≤ 900000) (hn : n ≤ 1000000) (hc : c ≤ 1000000) (r : Bool) (more : List (Th × Th)) (ts : List Th) (hr : asTypesV (ev s) (n + c) ta tb = some (r, more, ts)) :
    Calls Tryz.prog 181 #[ptr bh, .agg #[ptr qa, ptr qb, .pointer none]] w fun e w' => e = .returned (.bool r) ∧ HoldP g0 w0 g bh n (L ++ more) (c + ts.length) w' := by
  obtain ⟨va, ea⟩ : ∃ v, ev s ta = some v := by
    cases e : ev s ta with
    | none => simp [asTypesV, e] at hr
    | some v => exact ⟨v, rfl⟩
  obtain ⟨vb, eb⟩ : ∃ v, ev s tb = some v := by
    cases e : ev s tb with
    | none => simp [asTypesV, ea, e] at hr
    | some v => exact ⟨v, rfl⟩
  simp only [asTypesV, ea, eb] at hr
  obtain ⟨W, hW⟩ : ∃ W, (w.alloc (.cells #[.pointer (some ⟨qa, 0, none⟩), .pointer (some ⟨qb, 0, none⟩), .pointer none] 236)).drew = W := ⟨_, rfl⟩
  have hb1 : Below w.heap.size w W := by rw [← hW]; exact ((Below.refl _ w).alloc (Nat.le_refl _) _).drew
  have hs1 : Ste g w g W := .below hs.inv hb1
  have hB : Blk W w.heap.size #[.pointer (some ⟨qa, 0, none⟩), .pointer (some ⟨qb, 0, none⟩), .pointer none] 236 := by rw [← hW]; exact Blk.new w _ _
  have hBl : g.l w.heap.size = none := hs.inv.l_new (Nat.le_refl _)
  have HA : ∀ g' w', Ste g W g' w' → Calls Tryz.prog 20 #[.pointer (some ⟨qa, 0, none⟩)] w' (NowP g' w' va) := fun g' w' h => now_any qa ta va g' w' h.inv (h.le.l _ _ ha) ⟨s, ea⟩
  have HB : ∀ g' w', Ste g W g' w' → Calls Tryz.prog 20 #[.pointer (some ⟨qb, 0, none⟩)] w' (NowP g' w' vb) := fun g' w' h => now_any qb tb vb g' w' h.inv (h.le.l _ _ hb) ⟨s, eb⟩
  have HBx : ∀ g' w', Ste g W g' w' → w'.cell? ⟨w.heap.size, 0, none⟩ = some (.pointer (some ⟨qa, 0, none⟩)) ∧ w'.cell? ⟨w.heap.size, 1, none⟩ = some (.pointer (some ⟨qb, 0, none⟩)) := fun g' w' h => by
    have := hB.of_eq (h.keep.block _ hB.lt hBl)
    exact ⟨this.three.1, this.three.2.1⟩
  have HS : Hid (Ste g0 w0 g w ∧ HoldAt g w0 w bh n L c ∧ Ste g w g W) := ⟨hs, hH, hs1⟩
  have A0 := HA g W (.refl hs1.inv)
  have B0 := HB g W (.refl hs1.inv)
  obtain ⟨x0, x1⟩ := HBx g W (.refl hs1.inv)
  have HA' := (show Hid _ from HA)
  have HB' := (show Hid _ from HB)
  have HBx' := (show Hid _ from HBx)
  have HR := (show Hid _ from hr)
  have HR0 : Hid (Ste g W g W) := .refl hs1.inv
  unfold ptr
  clear hs hH ha hb ea eb hb1 hs1 hB hBl HA HB HBx hr
  go_enter Tryz.func181, Tryz.ntmps181
  go_upto_region 1 with fail
  go_cut [5, 6] from 8 to 68 (fun s5 s6 wc => ∃ g1 ya yb, s5 = .pointer (some ⟨ya, 0, none⟩) ∧ s6 = .pointer (some ⟨yb, 0, none⟩) ∧ Hid (Ste g W g1 wc ∧ g1.v ya = some va ∧ g1.v yb = some vb))
  case first =>
    go_region_held3 (fun w' => w'.cell? ⟨w.heap.size, 0, none⟩ = some (.pointer (some ⟨qa, 0, none⟩)) ∧ w'.cell? ⟨w.heap.size, 1, none⟩ = some (.pointer (some ⟨qb, 0, none⟩))) (go_keep)
      (first
        | (go_at_call 20; refine A0.mono ?_; rintro e w3 ⟨g3, ya, rfl, hs3, hya⟩; unfold ptr; have B1 := HB'.out g3 w3 hs3; obtain ⟨y0, y1⟩ := HBx'.out g3 w3 hs3; have HT3 : Hid (Ste g W g3 w3 ∧ g3.v ya = some va) := ⟨hs3, hya⟩; clear hs3 hya A0 B0)
        | (go_at_call 20; refine B1.mono ?_; rintro e w4 ⟨g4, yb, rfl, hs4, hyb⟩; unfold ptr; obtain ⟨z0, z1⟩ := HBx'.out g4 w4 (HT3.out.1.trans hs4); have HF : Hid (Ste g W g4 w4 ∧ g4.v ya = some va ∧ g4.v yb = some vb) := ⟨HT3.out.1.trans hs4, hs4.le.v _ _ HT3.out.2, hyb⟩; clear hs4 hyb B1)
        | (go_at_call 20; refine B0.mono ?_; rintro e w3 ⟨g3, yb, rfl, hs3, hyb⟩; unfold ptr; have A1 := HA'.out g3 w3 hs3; obtain ⟨y0, y1⟩ := HBx'.out g3 w3 hs3; have HT3 : Hid (Ste g W g3 w3 ∧ g3.v yb = some vb) := ⟨hs3, hyb⟩; clear hs3 hyb A0 B0)
        | (go_at_call 20; refine A1.mono ?_; rintro e w4 ⟨g4, ya, rfl, hs4, hya⟩; unfold ptr; obtain ⟨z0, z1⟩ := HBx'.out g4 w4 (HT3.out.1.trans hs4); have HF : Hid (Ste g W g4 w4 ∧ g4.v ya = some va ∧ g4.v yb = some vb) := ⟨HT3.out.1.trans hs4, hya, hs4.le.v _ _ HT3.out.2⟩; clear hs4 hya A1))
    all_goals (go_wp2_with fail)
    all_goals go_meet
    all_goals exact ⟨g4, ya, yb, rfl, rfl, HF⟩
  case rest =>
    obtain ⟨g1, ya, yb, rfl, rfl, h1⟩ := hcut
    have hcs : Ste g w g1 wc := HS.out.2.2.trans h1.out.1
    have hD : Hid (Ste g0 w0 g1 wc ∧ HoldAt g1 w0 wc bh n L c ∧ g1.v ya = some va ∧ g1.v yb = some vb) := ⟨HS.out.1.trans hcs, HS.out.2.1.ste hcs, h1.out.2⟩
    have hM : Hid ((∀ b t, g.l b = some t → g1.l b = some t) ∧ (∀ b v, g.v b = some v → g1.v b = some v)) := ⟨hcs.le.l, hcs.le.v⟩
    have HP0 : Hid (HoldP g0 w0 g bh n (L ++ []) c wc) := ⟨g1, hD.out.1, hM.out.1, hM.out.2, by rw [List.append_nil]; exact hD.out.2.1⟩
    have AL : ∀ (k : Int) (m : Nat), Calls Tryz.prog 186 #[.pointer (some ⟨ya, 0, none⟩), .pointer (some ⟨yb, 0, none⟩), .int .i64 k, .int .i64 (m : Int)] wc fun e w' => e = .returned (.bool (alikeV va vb k m)) ∧ w' = wc := fun k m => alike_any ya yb va vb k m g1 wc hD.out.1.inv hD.out.2.2.1 hD.out.2.2.2
    obtain ⟨_, _, _, n1, _, _⟩ := (hD.out.1.inv.v ya va hD.out.2.2.1).cells
    obtain ⟨_, _, _, n2, _, _⟩ := (hD.out.1.inv.v yb vb hD.out.2.2.2).cells
    have hr := HR.out
    clear hcs h1 HS HR HR0 HA' HB' HBx' A0 B0 x0 x1
    cases e2 : alikeV va vb 2 0 with
    | true =>
      rw [if_pos e2] at hr
      simp only [Option.some.injEq, Prod.mk.injEq] at hr
      obtain ⟨rfl, rfl, rfl⟩ := hr
      have H2 : Calls Tryz.prog 186 #[.pointer (some ⟨ya, 0, none⟩), .pointer (some ⟨yb, 0, none⟩), .int .i64 2, .int .i64 0] wc fun e w' => e = .returned (.bool true) ∧ w' = wc := e2 ▸ AL 2 0
      have HPD : Hid (HoldP g0 w0 g bh n (L ++ []) c wc.drew) := ⟨g1, hD.out.1.trans (.drew hD.out.1.inv), hM.out.1, hM.out.2, by rw [List.append_nil]; exact hD.out.2.1.ste (.drew hD.out.1.inv)⟩
      clear AL e2
      go_wp2_with (first | ((with_reducible refine H2.mono ?_); rintro e w1 ⟨rfl, rfl⟩))
      go_region
      go_wp2_with fail
      refine bodyPost_ret (v := .bool (decide (va.num = vb.num))) (by simp [results, Tryz.results181, go_sem]; rw [Bool.eq_iff_iff, beq_iff_eq, decide_eq_true_iff]) rfl ⟨rfl, HPD.out⟩
    | false =>
      rw [if_neg (by rw [e2]; decide)] at hr
      have H2 : Calls Tryz.prog 186 #[.pointer (some ⟨ya, 0, none⟩), .pointer (some ⟨yb, 0, none⟩), .int .i64 2, .int .i64 0] wc fun e w' => e = .returned (.bool false) ∧ w' = wc := e2 ▸ AL 2 0
      cases e10 : alikeV va vb 10 0 with
      | true =>
        rw [if_pos (by rw [e10]; rfl)] at hr
        simp only [Option.some.injEq, Prod.mk.injEq] at hr
        obtain ⟨rfl, rfl, rfl⟩ := hr
        have H10 : Calls Tryz.prog 186 #[.pointer (some ⟨ya, 0, none⟩), .pointer (some ⟨yb, 0, none⟩), .int .i64 10, .int .i64 0] wc fun e w' => e = .returned (.bool true) ∧ w' = wc := e10 ▸ AL 10 0
        clear AL e2 e10 n1 n2
        go_wp2_with (first | ((with_reducible refine H2.mono ?_); rintro e w1 ⟨rfl, rfl⟩) | ((with_reducible refine H10.mono ?_); rintro e w1 ⟨rfl, rfl⟩))
        refine bodyPost_ret (v := .bool true) (by simp [results, Tryz.results181, go_sem]) rfl ⟨rfl, HP0.out⟩
      | false =>
      have H10 : Calls Tryz.prog 186 #[.pointer (some ⟨ya, 0, none⟩), .pointer (some ⟨yb, 0, none⟩), .int .i64 10, .int .i64 0] wc fun e w' => e = .returned (.bool false) ∧ w' = wc := e10 ▸ AL 10 0
      cases e12 : alikeV va vb 12 0 with
      | true =>
        rw [if_pos (by rw [e10, e12]; rfl)] at hr
        simp only [Option.some.injEq, Prod.mk.injEq] at hr
        obtain ⟨rfl, rfl, rfl⟩ := hr
        have H12 : Calls Tryz.prog 186 #[.pointer (some ⟨ya, 0, none⟩), .pointer (some ⟨yb, 0, none⟩), .int .i64 12, .int .i64 0] wc fun e w' => e = .returned (.bool true) ∧ w' = wc := e12 ▸ AL 12 0
        clear AL e2 e10 e12 n1 n2
        go_wp2_with (first | ((with_reducible refine H2.mono ?_); rintro e w1 ⟨rfl, rfl⟩) | ((with_reducible refine H10.mono ?_); rintro e w1 ⟨rfl, rfl⟩) | ((with_reducible refine H12.mono ?_); rintro e w1 ⟨rfl, rfl⟩))
        refine bodyPost_ret (v := .bool true) (by simp [results, Tryz.results181, go_sem]) rfl ⟨rfl, HP0.out⟩
      | false =>
      have H12 : Calls Tryz.prog 186 #[.pointer (some ⟨ya, 0, none⟩), .pointer (some ⟨yb, 0, none⟩), .int .i64 12, .int .i64 0] wc fun e w' => e = .returned (.bool false) ∧ w' = wc := e12 ▸ AL 12 0
      cases e14 : alikeV va vb 14 0 with
      | true =>
        rw [if_pos (by rw [e10, e12, e14]; rfl)] at hr
        simp only [Option.some.injEq, Prod.mk.injEq] at hr
        obtain ⟨rfl, rfl, rfl⟩ := hr
        have H14 : Calls Tryz.prog 186 #[.pointer (some ⟨ya, 0, none⟩), .pointer (some ⟨yb, 0, none⟩), .int .i64 14, .int .i64 0] wc fun e w' => e = .returned (.bool true) ∧ w' = wc := e14 ▸ AL 14 0
        clear AL e2 e10 e12 e14 n1 n2
        go_wp2_with (first | ((with_reducible refine H2.mono ?_); rintro e w1 ⟨rfl, rfl⟩) | ((with_reducible refine H10.mono ?_); rintro e w1 ⟨rfl, rfl⟩) | ((with_reducible refine H12.mono ?_); rintro e w1 ⟨rfl, rfl⟩) | ((with_reducible refine H14.mono ?_); rintro e w1 ⟨rfl, rfl⟩))
        refine bodyPost_ret (v := .bool true) (by simp [results, Tryz.results181, go_sem]) rfl ⟨rfl, HP0.out⟩
      | false =>
      have H14 : Calls Tryz.prog 186 #[.pointer (some ⟨ya, 0, none⟩), .pointer (some ⟨yb, 0, none⟩), .int .i64 14, .int .i64 0] wc fun e w' => e = .returned (.bool false) ∧ w' = wc := e14 ▸ AL 14 0
      rw [if_neg (by rw [e10, e12, e14]; decide)] at hr
      by_cases e36 : (alikeV va vb 3 2 || alikeV va vb 6 2) = true
      · rw [if_pos e36] at hr
        obtain ⟨a0, h0⟩ : ∃ t, argV va 0 [] = some t := by
          cases h : argV va 0 [] with
          | none => rw [h] at hr; cases hr
          | some t => exact ⟨t, rfl⟩
        obtain ⟨b0, h0'⟩ : ∃ t, argV vb 0 [] = some t := by
          cases h : argV vb 0 [] with
          | none => rw [h0, h] at hr; cases hr
          | some t => exact ⟨t, rfl⟩
        obtain ⟨a1, h1⟩ : ∃ t, argV va 1 [.val (free ((n + c : Nat) : Int))] = some t := by
          cases h : argV va 1 [.val (free ((n + c : Nat) : Int))] with
          | none => rw [h0, h0', h] at hr; cases hr
          | some t => exact ⟨t, rfl⟩
        obtain ⟨b1, h1'⟩ : ∃ t, argV vb 1 [.val (free ((n + c : Nat) : Int))] = some t := by
          cases h : argV vb 1 [.val (free ((n + c : Nat) : Int))] with
          | none => rw [h0, h0', h1, h] at hr; cases hr
          | some t => exact ⟨t, rfl⟩
        rw [h0, h0', h1, h1'] at hr
        simp only [Option.some.injEq, Prod.mk.injEq] at hr
        obtain ⟨rfl, rfl, rfl⟩ := hr
        have hX : Hid (argV va 0 [] = some a0 ∧ argV vb 0 [] = some b0 ∧ argV va 1 [.val (free ((n + c : Nat) : Int))] = some a1 ∧ argV vb 1 [.val (free ((n + c : Nat) : Int))] = some b1) := ⟨h0, h0', h1, h1'⟩
        clear h0 h0' h1 h1' n1 n2 HP0
        cases e3 : alikeV va vb 3 2 with
        | true =>
          have H3 : Calls Tryz.prog 186 #[.pointer (some ⟨ya, 0, none⟩), .pointer (some ⟨yb, 0, none⟩), .int .i64 3, .int .i64 2] wc fun e w' => e = .returned (.bool true) ∧ w' = wc := e3 ▸ AL 3 2
          clear AL e2 e10 e12 e14 e3 e36
          go_wp2_with (first | ((with_reducible refine H2.mono ?_); rintro e w1 ⟨rfl, rfl⟩) | ((with_reducible refine H10.mono ?_); rintro e w1 ⟨rfl, rfl⟩) | ((with_reducible refine H12.mono ?_); rintro e w1 ⟨rfl, rfl⟩) | ((with_reducible refine H14.mono ?_); rintro e w1 ⟨rfl, rfl⟩) | ((with_reducible refine H3.mono ?_); rintro e w1 ⟨rfl, rfl⟩))
          refine (argV_any ya 0 va none 0 [] a0 g1 w1 hD.out.1.inv hD.out.2.2.1 (fun h => absurd h (Nat.lt_irrefl 0)) (Nat.zero_le _) hX.out.1).mono ?_
          rintro e w2 ⟨g2, qa0, rfl, hs2, hl2⟩
          unfold ptr
          have D2 : Hid (Ste g1 w1 g2 w2 ∧ g2.l qa0 = some a0) := ⟨hs2, hl2⟩
          clear hs2 hl2
          go_wp2_with fail
          refine (argV_any yb 0 vb none 0 [] b0 g2 w2 D2.out.1.inv (D2.out.1.le.v _ _ hD.out.2.2.2) (fun h => absurd h (Nat.lt_irrefl 0)) (Nat.zero_le _) hX.out.2.1).mono ?_
          rintro e w3 ⟨g3, qb0, rfl, hs3, hl3⟩
          unfold ptr
          have D3 : Hid (Ste g1 w1 g3 w3 ∧ g3.l qa0 = some a0 ∧ g3.l qb0 = some b0) := ⟨D2.out.1.trans hs3, hs3.le.l _ _ D2.out.2, hl3⟩
          clear hs3 hl3 D2
          go_wp2_with fail
          refine (mustType_any bh qa0 qb0 n a0 b0 L c g0 g3 w0 w3 (hD.out.1.trans D3.out.1) (hD.out.2.1.ste D3.out.1) D3.out.2.1 D3.out.2.2 (by omega)).mono ?_
          rintro e w4 ⟨rfl, g4, hs4, hm4, hv4, hH4⟩
          have D4 : Hid (Ste g0 w0 g4 w4 ∧ (∀ b t, g1.l b = some t → g4.l b = some t) ∧ (∀ b v, g1.v b = some v → g4.v b = some v) ∧ HoldAt g4 w0 w4 bh n (L ++ [(a0, b0)]) c) := ⟨hs4, fun b t e => hm4 _ _ (D3.out.1.le.l _ _ e), fun b v e => hv4 _ _ (D3.out.1.le.v _ _ e), hH4⟩
          clear hs4 hm4 hv4 hH4 D3
          go_wp2_with fail
          refine (argV_any ya 0 va none 0 [] a0 g4 w4 D4.out.1.inv (D4.out.2.2.1 _ _ hD.out.2.2.1) (fun h => absurd h (Nat.lt_irrefl 0)) (Nat.zero_le _) hX.out.1).mono ?_
          rintro e w5 ⟨g5, qc, rfl, hs5, hl5⟩
          unfold ptr
          have D5 := (show Hid _ from hs5)
          clear hs5 hl5
          go_wp2_with fail
          refine (bind_any bh qc n (L ++ [(a0, b0)]) c g0 g5 w0 w5 (D4.out.1.trans D5.out) (D4.out.2.2.2.ste D5.out) hn hc).mono ?_
          rintro e w6 ⟨g6, qo, rfl, hs6, hm6, hv6, hH6, hl6⟩
          unfold ptr
          have D6 : Hid (Ste g0 w0 g6 w6 ∧ (∀ b t, g1.l b = some t → g6.l b = some t) ∧ (∀ b v, g1.v b = some v → g6.v b = some v) ∧ HoldAt g6 w0 w6 bh n (L ++ [(a0, b0)]) (c + 1) ∧ g6.l qo = some (.val (free ((n + c : Nat) : Int)))) :=
            ⟨hs6, fun b t e => hm6 _ _ (D5.out.le.l _ _ (D4.out.2.1 _ _ e)), fun b v e => hv6 _ _ (D5.out.le.v _ _ (D4.out.2.2.1 _ _ e)), hH6, hl6⟩
          clear hs6 hm6 hv6 hH6 hl6 D4 D5
          have b7 : Below w6.heap.size w6 (w6.alloc (.cells #[.pointer (some ⟨qo, 0, none⟩)] 43)) := (Below.refl _ _).alloc (Nat.le_refl _) _
          have hs7 : Ste g6 w6 g6 (w6.alloc (.cells #[.pointer (some ⟨qo, 0, none⟩)] 43)) := .below D6.out.1.inv b7
          have HA1 : Calls Tryz.prog 22 #[.pointer (some ⟨ya, 0, none⟩), .int .i64 1, .slice (some ⟨w6.heap.size, 0, none⟩) 1 1] (w6.alloc (.cells #[.pointer (some ⟨qo, 0, none⟩)] 43)) (LatP g6 (w6.alloc (.cells #[.pointer (some ⟨qo, 0, none⟩)] 43)) a1) :=
            argV_any ya 1 va _ 1 [.val (free ((n + c : Nat) : Int))] a1 g6 _ hs7.inv (D6.out.2.2.1 _ _ hD.out.2.2.1) (fun _ => ⟨_, _, rfl, Blk.new w6 _ _, row1 D6.out.2.2.2.2⟩) (by simp) hX.out.2.2.1
          have D7 := (show Hid _ from hs7)
          clear b7 hs7
          go_wp2_with fail
          refine HA1.mono ?_
          rintro e w8 ⟨g8, q1, rfl, hs8, hl8⟩
          unfold ptr
          have D8 : Hid (Ste g6 w6 g8 w8 ∧ g8.l q1 = some a1) := ⟨D7.out.trans hs8, hl8⟩
          clear hs8 hl8 D7 HA1
          have b9 : Below w8.heap.size w8 (w8.alloc (.cells #[.pointer (some ⟨qo, 0, none⟩)] 43)) := (Below.refl _ _).alloc (Nat.le_refl _) _
          have hs9 : Ste g8 w8 g8 (w8.alloc (.cells #[.pointer (some ⟨qo, 0, none⟩)] 43)) := .below D8.out.1.inv b9
          have HB1 : Calls Tryz.prog 22 #[.pointer (some ⟨yb, 0, none⟩), .int .i64 1, .slice (some ⟨w8.heap.size, 0, none⟩) 1 1] (w8.alloc (.cells #[.pointer (some ⟨qo, 0, none⟩)] 43)) (LatP g8 (w8.alloc (.cells #[.pointer (some ⟨qo, 0, none⟩)] 43)) b1) :=
            argV_any yb 1 vb _ 1 [.val (free ((n + c : Nat) : Int))] b1 g8 _ hs9.inv (D8.out.1.le.v _ _ (D6.out.2.2.1 _ _ hD.out.2.2.2)) (fun _ => ⟨_, _, rfl, Blk.new w8 _ _, row1 (D8.out.1.le.l _ _ D6.out.2.2.2.2)⟩) (by simp) hX.out.2.2.2
          have D9 := (show Hid _ from hs9)
          clear b9 hs9
          go_wp2_with fail
          refine HB1.mono ?_
          rintro e w10 ⟨g10, q2, rfl, hs10, hl10⟩
          unfold ptr
          have D10 : Hid (Ste g6 w6 g10 w10 ∧ g10.l q1 = some a1 ∧ g10.l q2 = some b1) := ⟨D8.out.1.trans (D9.out.trans hs10), (D9.out.trans hs10).le.l _ _ D8.out.2, hl10⟩
          clear hs10 hl10 D8 D9 HB1
          go_wp2_with fail
          refine (mustType_any bh q1 q2 n a1 b1 (L ++ [(a0, b0)]) (c + 1) g0 g10 w0 w10 (D6.out.1.trans D10.out.1) (D6.out.2.2.2.1.ste D10.out.1) D10.out.2.1 D10.out.2.2 (by rw [List.length_append]; show L.length + 1 ≤ _; omega)).mono ?_
          rintro e w11 ⟨rfl, g11, hs11, hm11, hv11, hH11⟩
          have D11 : Hid (HoldP g0 w0 g bh n (L ++ [(a0, b0), (a1, b1)]) (c + 1) w11) :=
            ⟨g11, hs11, fun b t e => hm11 _ _ (D10.out.1.le.l _ _ (D6.out.2.1 _ _ (hM.out.1 _ _ e))), fun b v e => hv11 _ _ (D10.out.1.le.v _ _ (D6.out.2.2.1 _ _ (hM.out.2 _ _ e))), by rw [List.append_cons]; exact hH11⟩
          clear hs11 hm11 hv11 hH11 D10 D6
          go_wp2_with fail
          refine bodyPost_ret (v := .bool true) (by simp [results, Tryz.results181, go_sem]) rfl ⟨rfl, D11.out⟩
        | false =>
          have e6 : alikeV va vb 6 2 = true := by rw [e3] at e36; exact e36
          have H3 : Calls Tryz.prog 186 #[.pointer (some ⟨ya, 0, none⟩), .pointer (some ⟨yb, 0, none⟩), .int .i64 3, .int .i64 2] wc fun e w' => e = .returned (.bool false) ∧ w' = wc := e3 ▸ AL 3 2
          have H6 : Calls Tryz.prog 186 #[.pointer (some ⟨ya, 0, none⟩), .pointer (some ⟨yb, 0, none⟩), .int .i64 6, .int .i64 2] wc fun e w' => e = .returned (.bool true) ∧ w' = wc := e6 ▸ AL 6 2
          clear AL e2 e10 e12 e14 e3 e36 e6
          go_wp2_with (first | ((with_reducible refine H2.mono ?_); rintro e w1 ⟨rfl, rfl⟩) | ((with_reducible refine H10.mono ?_); rintro e w1 ⟨rfl, rfl⟩) | ((with_reducible refine H12.mono ?_); rintro e w1 ⟨rfl, rfl⟩) | ((with_reducible refine H14.mono ?_); rintro e w1 ⟨rfl, rfl⟩) | ((with_reducible refine H3.mono ?_); rintro e w1 ⟨rfl, rfl⟩) | ((with_reducible refine H6.mono ?_); rintro e w1 ⟨rfl, rfl⟩))
          refine (argV_any ya 0 va none 0 [] a0 g1 w1 hD.out.1.inv hD.out.2.2.1 (fun h => absurd h (Nat.lt_irrefl 0)) (Nat.zero_le _) hX.out.1).mono ?_
          rintro e w2 ⟨g2, qa0, rfl, hs2, hl2⟩
          unfold ptr
          have D2 : Hid (Ste g1 w1 g2 w2 ∧ g2.l qa0 = some a0) := ⟨hs2, hl2⟩
          clear hs2 hl2
          go_wp2_with fail
          refine (argV_any yb 0 vb none 0 [] b0 g2 w2 D2.out.1.inv (D2.out.1.le.v _ _ hD.out.2.2.2) (fun h => absurd h (Nat.lt_irrefl 0)) (Nat.zero_le _) hX.out.2.1).mono ?_
          rintro e w3 ⟨g3, qb0, rfl, hs3, hl3⟩
          unfold ptr
          have D3 : Hid (Ste g1 w1 g3 w3 ∧ g3.l qa0 = some a0 ∧ g3.l qb0 = some b0) := ⟨D2.out.1.trans hs3, hs3.le.l _ _ D2.out.2, hl3⟩
          clear hs3 hl3 D2
          go_wp2_with fail
          refine (mustType_any bh qa0 qb0 n a0 b0 L c g0 g3 w0 w3 (hD.out.1.trans D3.out.1) (hD.out.2.1.ste D3.out.1) D3.out.2.1 D3.out.2.2 (by omega)).mono ?_
          rintro e w4 ⟨rfl, g4, hs4, hm4, hv4, hH4⟩
          have D4 : Hid (Ste g0 w0 g4 w4 ∧ (∀ b t, g1.l b = some t → g4.l b = some t) ∧ (∀ b v, g1.v b = some v → g4.v b = some v) ∧ HoldAt g4 w0 w4 bh n (L ++ [(a0, b0)]) c) := ⟨hs4, fun b t e => hm4 _ _ (D3.out.1.le.l _ _ e), fun b v e => hv4 _ _ (D3.out.1.le.v _ _ e), hH4⟩
          clear hs4 hm4 hv4 hH4 D3
          go_wp2_with fail
          refine (argV_any ya 0 va none 0 [] a0 g4 w4 D4.out.1.inv (D4.out.2.2.1 _ _ hD.out.2.2.1) (fun h => absurd h (Nat.lt_irrefl 0)) (Nat.zero_le _) hX.out.1).mono ?_
          rintro e w5 ⟨g5, qc, rfl, hs5, hl5⟩
          unfold ptr
          have D5 := (show Hid _ from hs5)
          clear hs5 hl5
          go_wp2_with fail
          refine (bind_any bh qc n (L ++ [(a0, b0)]) c g0 g5 w0 w5 (D4.out.1.trans D5.out) (D4.out.2.2.2.ste D5.out) hn hc).mono ?_
          rintro e w6 ⟨g6, qo, rfl, hs6, hm6, hv6, hH6, hl6⟩
          unfold ptr
          have D6 : Hid (Ste g0 w0 g6 w6 ∧ (∀ b t, g1.l b = some t → g6.l b = some t) ∧ (∀ b v, g1.v b = some v → g6.v b = some v) ∧ HoldAt g6 w0 w6 bh n (L ++ [(a0, b0)]) (c + 1) ∧ g6.l qo = some (.val (free ((n + c : Nat) : Int)))) :=
            ⟨hs6, fun b t e => hm6 _ _ (D5.out.le.l _ _ (D4.out.2.1 _ _ e)), fun b v e => hv6 _ _ (D5.out.le.v _ _ (D4.out.2.2.1 _ _ e)), hH6, hl6⟩
          clear hs6 hm6 hv6 hH6 hl6 D4 D5
          have b7 : Below w6.heap.size w6 (w6.alloc (.cells #[.pointer (some ⟨qo, 0, none⟩)] 43)) := (Below.refl _ _).alloc (Nat.le_refl _) _
          have hs7 : Ste g6 w6 g6 (w6.alloc (.cells #[.pointer (some ⟨qo, 0, none⟩)] 43)) := .below D6.out.1.inv b7
          have HA1 : Calls Tryz.prog 22 #[.pointer (some ⟨ya, 0, none⟩), .int .i64 1, .slice (some ⟨w6.heap.size, 0, none⟩) 1 1] (w6.alloc (.cells #[.pointer (some ⟨qo, 0, none⟩)] 43)) (LatP g6 (w6.alloc (.cells #[.pointer (some ⟨qo, 0, none⟩)] 43)) a1) :=
            argV_any ya 1 va _ 1 [.val (free ((n + c : Nat) : Int))] a1 g6 _ hs7.inv (D6.out.2.2.1 _ _ hD.out.2.2.1) (fun _ => ⟨_, _, rfl, Blk.new w6 _ _, row1 D6.out.2.2.2.2⟩) (by simp) hX.out.2.2.1
          have D7 := (show Hid _ from hs7)
          clear b7 hs7
          go_wp2_with fail
          refine HA1.mono ?_
          rintro e w8 ⟨g8, q1, rfl, hs8, hl8⟩
          unfold ptr
          have D8 : Hid (Ste g6 w6 g8 w8 ∧ g8.l q1 = some a1) := ⟨D7.out.trans hs8, hl8⟩
          clear hs8 hl8 D7 HA1
          have b9 : Below w8.heap.size w8 (w8.alloc (.cells #[.pointer (some ⟨qo, 0, none⟩)] 43)) := (Below.refl _ _).alloc (Nat.le_refl _) _
          have hs9 : Ste g8 w8 g8 (w8.alloc (.cells #[.pointer (some ⟨qo, 0, none⟩)] 43)) := .below D8.out.1.inv b9
          have HB1 : Calls Tryz.prog 22 #[.pointer (some ⟨yb, 0, none⟩), .int .i64 1, .slice (some ⟨w8.heap.size, 0, none⟩) 1 1] (w8.alloc (.cells #[.pointer (some ⟨qo, 0, none⟩)] 43)) (LatP g8 (w8.alloc (.cells #[.pointer (some ⟨qo, 0, none⟩)] 43)) b1) :=
            argV_any yb 1 vb _ 1 [.val (free ((n + c : Nat) : Int))] b1 g8 _ hs9.inv (D8.out.1.le.v _ _ (D6.out.2.2.1 _ _ hD.out.2.2.2)) (fun _ => ⟨_, _, rfl, Blk.new w8 _ _, row1 (D8.out.1.le.l _ _ D6.out.2.2.2.2)⟩) (by simp) hX.out.2.2.2
          have D9 := (show Hid _ from hs9)
          clear b9 hs9
          go_wp2_with fail
          refine HB1.mono ?_
          rintro e w10 ⟨g10, q2, rfl, hs10, hl10⟩
          unfold ptr
          have D10 : Hid (Ste g6 w6 g10 w10 ∧ g10.l q1 = some a1 ∧ g10.l q2 = some b1) := ⟨D8.out.1.trans (D9.out.trans hs10), (D9.out.trans hs10).le.l _ _ D8.out.2, hl10⟩
          clear hs10 hl10 D8 D9 HB1
          go_wp2_with fail
          refine (mustType_any bh q1 q2 n a1 b1 (L ++ [(a0, b0)]) (c + 1) g0 g10 w0 w10 (D6.out.1.trans D10.out.1) (D6.out.2.2.2.1.ste D10.out.1) D10.out.2.1 D10.out.2.2 (by rw [List.length_append]; show L.length + 1 ≤ _; omega)).mono ?_
          rintro e w11 ⟨rfl, g11, hs11, hm11, hv11, hH11⟩
          have D11 : Hid (HoldP g0 w0 g bh n (L ++ [(a0, b0), (a1, b1)]) (c + 1) w11) :=
            ⟨g11, hs11, fun b t e => hm11 _ _ (D10.out.1.le.l _ _ (D6.out.2.1 _ _ (hM.out.1 _ _ e))), fun b v e => hv11 _ _ (D10.out.1.le.v _ _ (D6.out.2.2.1 _ _ (hM.out.2 _ _ e))), by rw [List.append_cons]; exact hH11⟩
          clear hs11 hm11 hv11 hH11 D10 D6
          go_wp2_with fail
          refine bodyPost_ret (v := .bool true) (by simp [results, Tryz.results181, go_sem]) rfl ⟨rfl, D11.out⟩
      · rw [if_neg e36] at hr
        have e36' : alikeV va vb 3 2 = false ∧ alikeV va vb 6 2 = false := by simpa using e36
        obtain ⟨e3, e6⟩ := e36'
        by_cases hh : (hangsV va vb || alikeV va vb 1 0) = true
        · rw [if_pos hh] at hr
          cases hr
        · rw [if_neg hh] at hr
          simp only [Option.some.injEq, Prod.mk.injEq] at hr
          obtain ⟨rfl, rfl, rfl⟩ := hr
          have hh' : hangsV va vb = false ∧ alikeV va vb 1 0 = false := by simpa using hh
          have HSt := stuck_any (.pointer (some ⟨bh, 0, none⟩)) ya yb va vb g1 wc hD.out.1.inv hD.out.2.2.1 hD.out.2.2.2 hh'.1 hh'.2
          unfold ptr at HSt
          have H3 : Calls Tryz.prog 186 #[.pointer (some ⟨ya, 0, none⟩), .pointer (some ⟨yb, 0, none⟩), .int .i64 3, .int .i64 2] wc fun e w' => e = .returned (.bool false) ∧ w' = wc := e3 ▸ AL 3 2
          have H6 : Calls Tryz.prog 186 #[.pointer (some ⟨ya, 0, none⟩), .pointer (some ⟨yb, 0, none⟩), .int .i64 6, .int .i64 2] wc fun e w' => e = .returned (.bool false) ∧ w' = wc := e6 ▸ AL 6 2
          clear AL e2 e10 e12 e14 e3 e36 e6 hh hh' n1 n2 HP0
          go_wp2_with (first | ((with_reducible refine H2.mono ?_); rintro e w1 ⟨rfl, rfl⟩) | ((with_reducible refine H10.mono ?_); rintro e w1 ⟨rfl, rfl⟩) | ((with_reducible refine H12.mono ?_); rintro e w1 ⟨rfl, rfl⟩) | ((with_reducible refine H14.mono ?_); rintro e w1 ⟨rfl, rfl⟩) | ((with_reducible refine H3.mono ?_); rintro e w1 ⟨rfl, rfl⟩) | ((with_reducible refine H6.mono ?_); rintro e w1 ⟨rfl, rfl⟩))
          refine HSt.mono ?_
          rintro e w2 ⟨rfl, hs2⟩
          have HP2 : Hid (HoldP g0 w0 g bh n (L ++ []) c w2) := ⟨g1, hD.out.1.trans hs2, hM.out.1, hM.out.2, by rw [List.append_nil]; exact hD.out.2.1.ste hs2⟩
          clear hs2
          go_wp2_with fail
          refine bodyPost_ret (v := .bool false) (by simp [results, Tryz.results181, go_sem]) rfl ⟨rfl, HP2.out⟩
end Go.Proofs.YthfjmcomhccbaaaGreatDoor
