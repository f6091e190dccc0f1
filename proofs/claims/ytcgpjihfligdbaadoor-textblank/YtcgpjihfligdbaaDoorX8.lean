/-
  The program's reader: a term.
-/
import Derived.Test.YtcgpjihfligdbaaDoorX7
namespace Go.Proofs.YtcgpjihfligdbaaDoor
open Go.RowKit Tmx
set_option maxRecDepth 60000

theorem atomS_leaf (ns ds : List (List UInt8)) (wd : List UInt8) : (atomS ns ds wd 0).1.2.2 = .nil ∧ ((atomS ns ds wd 0).2 ≠ 0 → (atomS ns ds wd 0).1 = (0, 0, .nil)) := by
  unfold atomS atomU atomN atomV atomD
  repeat' split
  all_goals first | exact ⟨rfl, fun _ => rfl⟩ | exact ⟨rfl, fun h => absurd rfl h⟩
theorem leaf_post {lo r : Nat} {ds ns ws : List (List UInt8)} {w w' : World} {v : Value} {x : List UInt8} {e : Ending} (hS : RS lo r w' ws ns ds v) (hk : KB r v w w') (he : e = .returned (leafV (atomS ns ds x 0))) : TermPost lo r ds ns w v (atomK ns ds x ws) e w' := by
  obtain ⟨h1, h2⟩ := atomS_leaf ns ds x
  subst he
  refine ⟨hk, ws, ns, v, hS, OwnNew.refl _ _, ?_⟩
  unfold atomK
  by_cases h0 : (atomS ns ds x 0).2 = 0
  · rw [if_pos h0]
    refine ⟨rfl, rfl, none, 0, ?_, ?_⟩
    · unfold leafV
      rw [h0, h1]
      rfl
    · rw [h1]
      exact ⟨0, 0, fun h => by simp [len] at h, trivial⟩
  · rw [if_neg h0]
    refine ⟨?_, h0, Nat.le_refl _⟩
    unfold leafV
    rw [h2 h0]

set_option maxRecDepth 60000 in
set_option maxHeartbeats 8000000 in
theorem term_zero (ds : List (List UInt8)) : TermP ds 0 := by
  intro lo r w ws ns v h hsh hns
  have hb0 : Below w.heap.size w (w.alloc (.cells #[.int .i64 0, .int .i64 0, .slice none 0 0] 24)) := (Below.refl _ _).alloc (Nat.le_refl _) _
  have h0 := h.below hb0
  rw [show (24 : Int) - ((0 : Nat) : Int) = 24 by omega, show termK ds 0 ns ws = .error 9 from rfl]
  go_enter Tryd.func52, Tryd.ntmps52
  go_wp2_with fail
  refine bodyPost_ret (v := .tuple #[.agg #[.int .i64 0, .int .i64 0, .slice none 0 0], .int .i64 9]) (by simp [results, Tryd.results52, go_sem]) rfl ?_
  exact ⟨KB.of_below hb0, _, _, _, h0, OwnNew.refl _ _, rfl, by decide, Nat.le_refl _⟩

set_option maxRecDepth 60000 in
set_option maxHeartbeats 8000000 in
theorem term_succ (ds : List (List UInt8)) (hd1 : ds.length ≤ 1152921504606846976) (n : Nat) (hn : n < 24) (H : Hid (TermP ds n)) : TermP ds (n + 1) := by
  intro lo r w ws ns v h hsh hns
  have hr := h.lt
  have hlor := h.lor
  have hvo : v.ownBlock ≠ some w.heap.size := fun e => by have := (h.ownlt _ e).2; omega
  have hb0 : Below w.heap.size w (w.alloc (.cells #[.int .i64 0, .int .i64 0, .slice none 0 0] 24)) := (Below.refl _ _).alloc (Nat.le_refl _) _
  have bx0 := Box.new w (.int .i64 0) (.int .i64 0) (.slice none 0 0)
  have hz0 : (w.alloc (.cells #[.int .i64 0, .int .i64 0, .slice none 0 0] 24)).heap.size = w.heap.size + 1 := by simp
  have h0 := h.below hb0
  rw [show (24 : Int) - ((n + 1 : Nat) : Int) = 23 - (n : Int) by omega]
  cases ws with
  | nil =>
    rw [show termK ds (n + 1) ns [] = .error 8 from rfl]
    go_enter Tryd.func52, Tryd.ntmps52
    go_wp2_with fail
    refine (next_none' lo r _ ns ds v h0).mono ?_
    rintro e w1 ⟨rfl, rfl⟩
    go_wp2_with fail
    refine bodyPost_ret (v := .tuple #[.agg #[.int .i64 0, .int .i64 0, .slice none 0 0], .int .i64 8]) (by simp [results, Tryd.results52, go_sem]) rfl ?_
    exact ⟨KB.of_below hb0, _, _, _, h0, OwnNew.refl _ _, rfl, by decide, Nat.le_refl _⟩
  | cons x ws =>
    have hx0 := hsh.head.1
    have hxl := hsh.head.2
    have hsh' := hsh.tail
    clear hsh
    by_cases h40 : x = [40]
    · subst h40
      obtain ⟨res, hres⟩ : ∃ res, closeK (headKT ws) (argsK (termK ds n) (shpL (headKT ws)) .nil ns (headTT ws)) = res := ⟨_, rfl⟩
      rw [show termK ds (n + 1) ns ([40] :: ws) = res by rw [termK, if_pos rfl]; exact hres]
      have HRES : Hid (closeK (headKT ws) (argsK (termK ds n) (shpL (headKT ws)) .nil ns (headTT ws)) = res) := hres
      clear hres
      go_enter Tryd.func52, Tryd.ntmps52
      go_wp2_with fail
      refine (next_some lo r _ [40] ws ns ds v h0).mono ?_
      rintro e w1 ⟨rfl, hS1, hk1⟩
      have bx1 := hk1.box (by omega) bx0
      have hz1 := hk1.size
      have hkb1 : KB r v w w1 := (KB.of_below hb0).trans (KB.of_kept hk1 (v := v)) (OwnNew.refl _ _)
      clear hk1 bx0 h0
      go_wp2_with fail
      rw [show (23 : Int) - (n : Int) + 1 = 24 - (n : Int) by omega]
      refine (bracket_any ds n H lo r w1 ws ns v hS1 hsh' hns).mono ?_
      rw [HRES.out]
      rintro e w2 ⟨hkb2, ws2, ns2, v2, hS2, hon2, hres⟩
      have bx2 := hkb2.box (by omega) hvo bx1
      have hz2 := hkb2.size
      have hkbT : KB r v w w2 := hkb1.trans hkb2 (OwnNew.refl _ _)
      have hon0 : OwnNew w v v2 := hon2.mono hkb1.size
      have hvo2 : v2.ownBlock ≠ some w.heap.size := hon2.ne (by omega) hvo
      have hbl := bx2.lt
      obtain ⟨b0, b1, b2, g0, g1, g2⟩ := bx2.facts
      clear HRES hS1 bx1 hkb1 hkb2
      cases res with
      | error y =>
        obtain ⟨rfl, hy0, hln⟩ := hres
        obtain ⟨hF, kF⟩ := fin_box hS2 hkbT hr hvo2 (.int .i64 0) (.int .i64 0) (.slice none 0 0)
        go_wp2_with fail
        obtain ⟨d0, d1, d2, _, _, _⟩ := (bx2.set (.int .i64 0) (.int .i64 0) (.slice none 0 0)).facts
        refine bodyPost_ret (v := .tuple #[.agg #[.int .i64 0, .int .i64 0, .slice none 0 0], .int .i64 y]) (by simp [results, Tryd.results52, go_sem, d0, d1, d2]) rfl ?_
        exact ⟨kF, _, _, _, hF, hon0, rfl, hy0, hln⟩
      | ok tr =>
        obtain ⟨t, rest⟩ := tr
        obtain ⟨rfl, rfl, p, cap, rfl, hsl⟩ := hres
        obtain ⟨hF, kF⟩ := fin_box hS2 hkbT hr hvo2 (.int .i64 t.1) (.int .i64 t.2.1) (.slice p (len t.2.2) cap)
        go_wp2_with fail
        obtain ⟨d0, d1, d2, _, _, _⟩ := (bx2.set (.int .i64 t.1) (.int .i64 t.2.1) (.slice p (len t.2.2) cap)).facts
        refine bodyPost_ret (v := .tuple #[.agg #[.int .i64 t.1, .int .i64 t.2.1, .slice p (len t.2.2) cap], .int .i64 0]) (by simp [results, Tryd.results52, go_sem, d0, d1, d2]) rfl ?_
        refine ⟨kF, _, _, _, hF, hon0, rfl, rfl, p, cap, rfl, ?_⟩
        exact (SlQ.three hsl (B := w.heap.size) (by rintro ⟨h1, _⟩; omega) _ _ _).along fun b o u hq hu => ⟨⟨by have := hq.1; omega, hq.2⟩, hu⟩
    · rw [show termK ds (n + 1) ns (x :: ws) = atomK ns ds x ws by rw [termK, if_neg h40]]
      have t40 : (x == [40]) = false := by simpa using h40
      clear h40
      cases x with
      | nil => exact absurd rfl hx0
      | cons c t =>
        have hby : ({ data := (c :: t).toArray } : ByteArray)[0]'(by simp [ByteArray.size]) = c := rfl
        have hex : ({ data := (c :: t).toArray } : ByteArray).extract 1 (t.length + 1) = { data := t.toArray } := by rw [ByteArray.extract_mk]; simp
        have htl : t.length ≤ 1500 := by rw [List.length_cons] at hxl; omega
        clear hx0
        by_cases h85 : c = 85
        · subst h85
          have HA : Hid (atomS ns ds (85 :: t) 0 = atomU (85 :: t) 0) := by unfold atomS; rw [if_pos (show (85 :: t).head? = some 85 from rfl)]; rfl
          go_enter Tryd.func52, Tryd.ntmps52
          go_wp2_with fail
          refine (next_some lo r _ (85 :: t) ws ns ds v h0).mono ?_
          rintro e w1 ⟨rfl, hS1, hk1⟩
          have bx1 := hk1.box (by omega) bx0
          have hz1 := hk1.size
          have hkb1 : KB r v w w1 := (KB.of_below hb0).trans (KB.of_kept hk1 (v := v)) (OwnNew.refl _ _)
          clear hk1 bx0 h0
          go_wp2_with fail
          refine (universe_any w1 lo t hS1.vs htl).mono ?_
          rintro e w2 ⟨rfl, hb2⟩
          rw [← HA.out]
          have hS2 := hS1.below hb2
          have bx2 := bx1.below hb2
          have hkb2 : KB r v w w2 := hkb1.trans (KB.of_below hb2 (v := v)) (OwnNew.refl _ _)
          have hbl := bx2.lt
          obtain ⟨b0, b1, b2, g0, g1, g2⟩ := bx2.facts
          obtain ⟨y, hy⟩ : ∃ y, atomS ns ds (85 :: t) 0 = y := ⟨_, rfl⟩
          have HY : Hid (atomS ns ds (85 :: t) 0 = y) := hy
          rw [hy]
          clear hy
          unfold leafV
          obtain ⟨hF, kF⟩ := fin_box hS2 hkb2 hr hvo (.int .i64 y.1.1) (.int .i64 y.1.2.1) (.slice none 0 0)
          go_wp2_with fail
          obtain ⟨d0, d1, d2, _, _, _⟩ := (bx2.set (.int .i64 y.1.1) (.int .i64 y.1.2.1) (.slice none 0 0)).facts
          exact bodyPost_ret (v := .tuple #[.agg #[.int .i64 y.1.1, .int .i64 y.1.2.1, .slice none 0 0], .int .i64 y.2]) (by simp [results, Tryd.results52, go_sem, d0, d1, d2]) rfl (leaf_post hF kF (by rw [HY.out]; rfl))
        · have b85 : ((c.toNat : Int) == 85) = false := by rw [beq_eq_false_iff_ne]; intro h; exact h85 (UInt8.toNat_inj.1 (by show c.toNat = 85; omega))
          have HA : Hid (atomS ns ds (c :: t) 0 = atomN ns ds (c :: t) 0) := by unfold atomS; rw [if_neg (by simpa using h85)]; rfl
          have hkn := kindOf_nn (c :: t)
          have hk17 : Tmx.kindOf (c :: t) ≤ 17 := kf_le 15 (c :: t)
          go_enter Tryd.func52, Tryd.ntmps52
          go_wp2_with fail
          refine (next_some lo r _ (c :: t) ws ns ds v h0).mono ?_
          rintro e w1 ⟨rfl, hS1, hk1⟩
          have bx1 := hk1.box (by omega) bx0
          have hz1 := hk1.size
          have hkb1 : KB r v w w1 := (KB.of_below hb0).trans (KB.of_kept hk1 (v := v)) (OwnNew.refl _ _)
          clear hk1 bx0 h0
          go_wp2_with fail
          refine (pkindOf_any (c :: t) w1 lo hS1.vs).mono ?_
          rintro e w1' ⟨rfl, rfl⟩
          by_cases hK : 0 < Tmx.kindOf (c :: t)
          · rw [decide_eq_true hK]
            have hlen := shpL_len (Tmx.kindOf (c :: t))
            go_wp2_with fail
            refine (many_any (Tmx.kindOf (c :: t)) _ (by omega)).mono ?_
            rintro e w2 ⟨rfl, hb2⟩
            have hS2 := hS1.below hb2
            have bx2 := bx1.below hb2
            have hkb2 : KB r v w w2 := hkb1.trans (KB.of_below hb2 (v := v)) (OwnNew.refl _ _)
            have hbl := bx2.lt
            obtain ⟨b0, b1, b2, g0, g1, g2⟩ := bx2.facts
            by_cases hs : shpL (Tmx.kindOf (c :: t)) = []
            · have HV : Hid (leafV (atomS ns ds (c :: t) 0) = .tuple #[.agg #[.int .i64 (Tmx.kindOf (c :: t)), .int .i64 0, .slice none 0 0], .int .i64 0]) := by rw [HA.out]; unfold atomN; rw [if_pos hK, if_pos hs]; rfl
              obtain ⟨hF, kF⟩ := fin_box hS2 hkb2 hr hvo (.int .i64 (Tmx.kindOf (c :: t))) (.int .i64 0) (.slice none 0 0)
              rw [hs]
              clear hs hlen
              go_wp2_with fail
              obtain ⟨d0, d1, d2, _, _, _⟩ := (bx2.set (.int .i64 (Tmx.kindOf (c :: t))) (.int .i64 0) (.slice none 0 0)).facts
              exact bodyPost_ret (v := .tuple #[.agg #[.int .i64 (Tmx.kindOf (c :: t)), .int .i64 0, .slice none 0 0], .int .i64 0]) (by simp [results, Tryd.results52, go_sem, d0, d1, d2]) rfl (leaf_post hF kF (by rw [HV.out]))
            · have HV : Hid (leafV (atomS ns ds (c :: t) 0) = .tuple #[.agg #[.int .i64 0, .int .i64 0, .slice none 0 0], .int .i64 2]) := by rw [HA.out]; unfold atomN; rw [if_pos hK, if_neg hs]; rfl
              have hs0 : 0 < (shpL (Tmx.kindOf (c :: t))).length := List.length_pos_iff.2 hs
              obtain ⟨hF, kF⟩ := fin_box hS2 hkb2 hr hvo (.int .i64 0) (.int .i64 0) (.slice none 0 0)
              clear hs
              go_wp2_with fail
              obtain ⟨d0, d1, d2, _, _, _⟩ := (bx2.set (.int .i64 0) (.int .i64 0) (.slice none 0 0)).facts
              exact bodyPost_ret (v := .tuple #[.agg #[.int .i64 0, .int .i64 0, .slice none 0 0], .int .i64 2]) (by simp [results, Tryd.results52, go_sem, d0, d1, d2]) rfl (leaf_post hF kF (by rw [HV.out]))
          · rw [decide_eq_false hK]
            have HM : Hid (atomS ns ds (c :: t) 0 = atomM ns ds (c :: t)) := by rw [HA.out]; unfold atomN atomM; rw [if_neg hK]; rfl
            go_wp2_with fail
            refine (named_any lo r _ (c :: t) ws ns ds v hS1 hxl (by omega) hd1).mono ?_
            rintro e w2 ⟨rfl, hb2⟩
            rw [← HM.out]
            have hS2 := hS1.below hb2
            have bx2 := bx1.below hb2
            have hkb2 : KB r v w w2 := hkb1.trans (KB.of_below hb2 (v := v)) (OwnNew.refl _ _)
            have hbl := bx2.lt
            obtain ⟨b0, b1, b2, g0, g1, g2⟩ := bx2.facts
            obtain ⟨y, hy⟩ : ∃ y, atomS ns ds (c :: t) 0 = y := ⟨_, rfl⟩
            have HY : Hid (atomS ns ds (c :: t) 0 = y) := hy
            rw [hy]
            clear hy
            unfold leafV
            obtain ⟨hF, kF⟩ := fin_box hS2 hkb2 hr hvo (.int .i64 y.1.1) (.int .i64 y.1.2.1) (.slice none 0 0)
            go_wp2_with fail
            obtain ⟨d0, d1, d2, _, _, _⟩ := (bx2.set (.int .i64 y.1.1) (.int .i64 y.1.2.1) (.slice none 0 0)).facts
            exact bodyPost_ret (v := .tuple #[.agg #[.int .i64 y.1.1, .int .i64 y.1.2.1, .slice none 0 0], .int .i64 y.2]) (by simp [results, Tryd.results52, go_sem, d0, d1, d2]) rfl (leaf_post hF kF (by rw [HY.out]; rfl))
theorem term_all (ds : List (List UInt8)) (hd1 : ds.length ≤ 1152921504606846976) : ∀ n, n ≤ 24 → TermP ds n
  | 0, _ => term_zero ds
  | n + 1, h => term_succ ds hd1 n (by omega) (term_all ds hd1 n (by omega))
end Go.Proofs.YtcgpjihfligdbaaDoor
