/-
  The program's reader: a term.
-/
/-
  Contracts of package book: the words of a term, and those behind them.
-/
import Derived.Test.YthfjmcomhccbaaaGreatDoorVX7
import Derived.Deep.LoopGhost
namespace Go.Proofs.YthfjmcomhccbaaaGreatDoor
open Go.RowKit Tmx
set_option maxRecDepth 60000

theorem atomS_leaf (ns ds : List (List UInt8)) (wd : List UInt8) : (atomS ns ds wd 0).1.2.2 = .nil ∧ ((atomS ns ds wd 0).2 ≠ 0 → (atomS ns ds wd 0).1 = (0, 0, .nil)) := by
  unfold atomS atomU atomN atomV atomD
  repeat' split
  all_goals first | exact ⟨rfl, fun _ => rfl⟩ | exact ⟨rfl, fun h => absurd rfl h⟩
theorem leaf_post {lo r : Nat} {ds ns ws : List (List UInt8)} {w w' : World} {v : Value} {x : List UInt8} {e : Ending} (hS : RS lo r w' ws ns ds v) (hk : KB r v w w') (he : e = .returned (leafV (atomS ns ds x 0))) : TermPost lo r ds ns w v (atomK ns ds x ws) e w' := by
  obtain ⟨h1, h2⟩ := atomS_leaf ns ds x
  subst he
  refine ⟨hk, ws, ns, v, hS, OwnNew.refl _ _, ?_⟩
  unfold atomK
  by_cases h0 : (atomS ns ds x 0).2 = 0
  · rw [if_pos h0]
    refine ⟨rfl, rfl, none, ⟨0, by rw [h1]; exact Nat.zero_le _⟩, ?_, ?_⟩
    · unfold leafV
      rw [h0]
      dsimp only
      rw [show len (atomS ns ds x 0).1.2.2 = 0 by rw [h1]; rfl]
    · rw [h1]
      exact ⟨0, 0, fun h => by simp [len] at h, trivial⟩
  · rw [if_neg h0]
    refine ⟨?_, h0, Nat.le_refl _⟩
    unfold leafV
    rw [h2 h0]

set_option maxRecDepth 60000 in
set_option maxHeartbeats 8000000 in
theorem term_zero (ds : List (List UInt8)) : TermP ds 0 := by
  intro lo r w ws ns v h hsh hns
  have hb0 : Below w.heap.size w (w.alloc (.cells #[.int .i64 0, .int .i64 0, .slice none 0 0] 30)) := (Below.refl _ _).alloc (Nat.le_refl _) _
  have h0 := h.below hb0
  rw [show (24 : Int) - ((0 : Nat) : Int) = 24 by omega, show termK ds 0 ns ws = .error 9 from rfl]
  go_enter Tryz.func78, Tryz.ntmps78
  go_wp2_with fail
  refine bodyPost_ret (v := .tuple #[.agg #[.int .i64 0, .int .i64 0, .slice none 0 0], .int .i64 9]) (by simp [results, Tryz.results78, go_sem]) rfl ?_
  exact ⟨KB.of_below hb0, _, _, _, h0, OwnNew.refl _ _, rfl, by decide, Nat.le_refl _⟩

set_option maxRecDepth 60000 in
set_option maxHeartbeats 8000000 in
theorem term_succ (ds : List (List UInt8)) (hd1 : ds.length ≤ 1152921504606846976) (n : Nat) (hn : n < 24) (H : Hid (TermP ds n)) : TermP ds (n + 1) := by
  intro lo r w ws ns v h hsh hns
  have hr := h.lt
  have hlor := h.lor
  have hvo : v.ownBlock ≠ some w.heap.size := fun e => by have := (h.ownlt _ e).2; omega
  have hb0 : Below w.heap.size w (w.alloc (.cells #[.int .i64 0, .int .i64 0, .slice none 0 0] 30)) := (Below.refl _ _).alloc (Nat.le_refl _) _
  have bx0 := Box.new w (.int .i64 0) (.int .i64 0) (.slice none 0 0)
  have hz0 : (w.alloc (.cells #[.int .i64 0, .int .i64 0, .slice none 0 0] 30)).heap.size = w.heap.size + 1 := by simp
  have h0 := h.below hb0
  rw [show (24 : Int) - ((n + 1 : Nat) : Int) = 23 - (n : Int) by omega]
  cases ws with
  | nil =>
    rw [show termK ds (n + 1) ns [] = .error 8 from rfl]
    go_enter Tryz.func78, Tryz.ntmps78
    go_wp2_with fail
    refine (next_none' lo r _ ns ds v h0).mono ?_
    rintro e w1 ⟨rfl, rfl⟩
    go_wp2_with fail
    refine bodyPost_ret (v := .tuple #[.agg #[.int .i64 0, .int .i64 0, .slice none 0 0], .int .i64 8]) (by simp [results, Tryz.results78, go_sem]) rfl ?_
    exact ⟨KB.of_below hb0, _, _, _, h0, OwnNew.refl _ _, rfl, by decide, Nat.le_refl _⟩
  | cons x ws =>
    have hx0 := hsh.head.1
    have hxl := hsh.head.2
    have hsh' := hsh.tail
    clear hsh
    by_cases h40 : x = [40]
    · subst h40
      obtain ⟨res, hres⟩ : ∃ res, closeK (headKT ws) (argsK (termK ds n) (shpL (headKT ws)) .nil ns (headTT ws)) = res := ⟨_, rfl⟩
      rw [show termK ds (n + 1) ns ([40] :: ws) = res by rw [termK, if_pos rfl]; exact hres]
      have HRES : Hid (closeK (headKT ws) (argsK (termK ds n) (shpL (headKT ws)) .nil ns (headTT ws)) = res) := hres
      clear hres
      go_enter Tryz.func78, Tryz.ntmps78
      go_wp2_with fail
      refine (next_some lo r _ [40] ws ns ds v h0).mono ?_
      rintro e w1 ⟨rfl, hS1, hk1⟩
      have bx1 := hk1.box (by omega) bx0
      have hz1 := hk1.size
      have hkb1 : KB r v w w1 := (KB.of_below hb0).trans (KB.of_kept hk1 (v := v)) (OwnNew.refl _ _)
      clear hk1 bx0 h0
      go_wp2_with fail
      rw [show (23 : Int) - (n : Int) + 1 = 24 - (n : Int) by omega]
      refine (bracket_any ds n H lo r w1 ws ns v hS1 hsh' hns).mono ?_
      rw [HRES.out]
      rintro e w2 ⟨hkb2, ws2, ns2, v2, hS2, hon2, hres⟩
      have bx2 := hkb2.box (by omega) hvo bx1
      have hz2 := hkb2.size
      have hkbT : KB r v w w2 := hkb1.trans hkb2 (OwnNew.refl _ _)
      have hon0 : OwnNew w v v2 := hon2.mono hkb1.size
      have hvo2 : v2.ownBlock ≠ some w.heap.size := hon2.ne (by omega) hvo
      have hbl := bx2.lt
      obtain ⟨b0, b1, b2, g0, g1, g2⟩ := bx2.facts
      clear HRES hS1 bx1 hkb1 hkb2
      cases res with
      | error y =>
        obtain ⟨rfl, hy0, hln⟩ := hres
        obtain ⟨hF, kF⟩ := fin_box hS2 hkbT hr hvo2 (.int .i64 0) (.int .i64 0) (.slice none 0 0)
        go_wp2_with fail
        obtain ⟨d0, d1, d2, _, _, _⟩ := (bx2.set (.int .i64 0) (.int .i64 0) (.slice none 0 0)).facts
        refine bodyPost_ret (v := .tuple #[.agg #[.int .i64 0, .int .i64 0, .slice none 0 0], .int .i64 y]) (by simp [results, Tryz.results78, go_sem, d0, d1, d2]) rfl ?_
        exact ⟨kF, _, _, _, hF, hon0, rfl, hy0, hln⟩
      | ok tr =>
        obtain ⟨t, rest⟩ := tr
        obtain ⟨rfl, rfl, p, ⟨cap, hcap⟩, hve, hsl⟩ := hres
        dsimp only at hve
        subst hve
        have HCAP := (show Hid _ from hcap)
        clear hcap
        obtain ⟨hF, kF⟩ := fin_box hS2 hkbT hr hvo2 (.int .i64 t.1) (.int .i64 t.2.1) (.slice p (len t.2.2) cap)
        go_wp2_with fail
        obtain ⟨d0, d1, d2, _, _, _⟩ := (bx2.set (.int .i64 t.1) (.int .i64 t.2.1) (.slice p (len t.2.2) cap)).facts
        refine bodyPost_ret (v := .tuple #[.agg #[.int .i64 t.1, .int .i64 t.2.1, .slice p (len t.2.2) cap], .int .i64 0]) (by simp [results, Tryz.results78, go_sem, d0, d1, d2]) rfl ?_
        refine ⟨kF, _, _, _, hF, hon0, rfl, rfl, p, ⟨cap, HCAP.out⟩, rfl, ?_⟩
        exact (SlQ.three hsl (B := w.heap.size) (by rintro ⟨h1, _⟩; omega) _ _ _).along fun b o u hq hu => ⟨⟨by have := hq.1; omega, hq.2⟩, hu⟩
    · rw [show termK ds (n + 1) ns (x :: ws) = atomK ns ds x ws by rw [termK, if_neg h40]]
      have t40 : (x == [40]) = false := by simpa using h40
      clear h40
      cases x with
      | nil => exact absurd rfl hx0
      | cons c t =>
        have hby : ({ data := (c :: t).toArray } : ByteArray)[0]'(by simp [ByteArray.size]) = c := rfl
        have hex : ({ data := (c :: t).toArray } : ByteArray).extract 1 (t.length + 1) = { data := t.toArray } := by rw [ByteArray.extract_mk]; simp
        have htl : t.length ≤ 1500 := by rw [List.length_cons] at hxl; omega
        clear hx0
        by_cases h85 : c = 85
        · subst h85
          have HA : Hid (atomS ns ds (85 :: t) 0 = atomU (85 :: t) 0) := by unfold atomS; rw [if_pos (show (85 :: t).head? = some 85 from rfl)]; rfl
          go_enter Tryz.func78, Tryz.ntmps78
          go_wp2_with fail
          refine (next_some lo r _ (85 :: t) ws ns ds v h0).mono ?_
          rintro e w1 ⟨rfl, hS1, hk1⟩
          have bx1 := hk1.box (by omega) bx0
          have hz1 := hk1.size
          have hkb1 : KB r v w w1 := (KB.of_below hb0).trans (KB.of_kept hk1 (v := v)) (OwnNew.refl _ _)
          clear hk1 bx0 h0
          go_wp2_with fail
          refine (universe_any w1 lo t hS1.vs htl).mono ?_
          rintro e w2 ⟨rfl, hb2⟩
          rw [← HA.out]
          have hS2 := hS1.below hb2
          have bx2 := bx1.below hb2
          have hkb2 : KB r v w w2 := hkb1.trans (KB.of_below hb2 (v := v)) (OwnNew.refl _ _)
          have hbl := bx2.lt
          obtain ⟨b0, b1, b2, g0, g1, g2⟩ := bx2.facts
          obtain ⟨y, hy⟩ : ∃ y, atomS ns ds (85 :: t) 0 = y := ⟨_, rfl⟩
          have HY : Hid (atomS ns ds (85 :: t) 0 = y) := hy
          rw [hy]
          clear hy
          unfold leafV
          obtain ⟨hF, kF⟩ := fin_box hS2 hkb2 hr hvo (.int .i64 y.1.1) (.int .i64 y.1.2.1) (.slice none 0 0)
          go_wp2_with fail
          obtain ⟨d0, d1, d2, _, _, _⟩ := (bx2.set (.int .i64 y.1.1) (.int .i64 y.1.2.1) (.slice none 0 0)).facts
          exact bodyPost_ret (v := .tuple #[.agg #[.int .i64 y.1.1, .int .i64 y.1.2.1, .slice none 0 0], .int .i64 y.2]) (by simp [results, Tryz.results78, go_sem, d0, d1, d2]) rfl (leaf_post hF kF (by rw [HY.out]; rfl))
        · have b85 : ((c.toNat : Int) == 85) = false := by rw [beq_eq_false_iff_ne]; intro h; exact h85 (UInt8.toNat_inj.1 (by show c.toNat = 85; omega))
          have HA : Hid (atomS ns ds (c :: t) 0 = atomN ns ds (c :: t) 0) := by unfold atomS; rw [if_neg (by simpa using h85)]; rfl
          have hkn := kindOf_nn (c :: t)
          have hk17 : Tmx.kindOf (c :: t) ≤ 17 := kf_le 15 (c :: t)
          go_enter Tryz.func78, Tryz.ntmps78
          go_wp2_with fail
          refine (next_some lo r _ (c :: t) ws ns ds v h0).mono ?_
          rintro e w1 ⟨rfl, hS1, hk1⟩
          have bx1 := hk1.box (by omega) bx0
          have hz1 := hk1.size
          have hkb1 : KB r v w w1 := (KB.of_below hb0).trans (KB.of_kept hk1 (v := v)) (OwnNew.refl _ _)
          clear hk1 bx0 h0
          go_wp2_with fail
          refine (pkindOf_any (c :: t) w1 lo hS1.vs).mono ?_
          rintro e w1' ⟨rfl, rfl⟩
          by_cases hK : 0 < Tmx.kindOf (c :: t)
          · rw [decide_eq_true hK]
            have hlen := shpL_len (Tmx.kindOf (c :: t))
            go_wp2_with fail
            refine (many_any (Tmx.kindOf (c :: t)) _ (by omega)).mono ?_
            rintro e w2 ⟨rfl, hb2⟩
            have hS2 := hS1.below hb2
            have bx2 := bx1.below hb2
            have hkb2 : KB r v w w2 := hkb1.trans (KB.of_below hb2 (v := v)) (OwnNew.refl _ _)
            have hbl := bx2.lt
            obtain ⟨b0, b1, b2, g0, g1, g2⟩ := bx2.facts
            by_cases hs : shpL (Tmx.kindOf (c :: t)) = []
            · have HV : Hid (leafV (atomS ns ds (c :: t) 0) = .tuple #[.agg #[.int .i64 (Tmx.kindOf (c :: t)), .int .i64 0, .slice none 0 0], .int .i64 0]) := by rw [HA.out]; unfold atomN; rw [if_pos hK, if_pos hs]; rfl
              obtain ⟨hF, kF⟩ := fin_box hS2 hkb2 hr hvo (.int .i64 (Tmx.kindOf (c :: t))) (.int .i64 0) (.slice none 0 0)
              rw [hs]
              clear hs hlen
              go_wp2_with fail
              obtain ⟨d0, d1, d2, _, _, _⟩ := (bx2.set (.int .i64 (Tmx.kindOf (c :: t))) (.int .i64 0) (.slice none 0 0)).facts
              exact bodyPost_ret (v := .tuple #[.agg #[.int .i64 (Tmx.kindOf (c :: t)), .int .i64 0, .slice none 0 0], .int .i64 0]) (by simp [results, Tryz.results78, go_sem, d0, d1, d2]) rfl (leaf_post hF kF (by rw [HV.out]))
            · have HV : Hid (leafV (atomS ns ds (c :: t) 0) = .tuple #[.agg #[.int .i64 0, .int .i64 0, .slice none 0 0], .int .i64 2]) := by rw [HA.out]; unfold atomN; rw [if_pos hK, if_neg hs]; rfl
              have hs0 : 0 < (shpL (Tmx.kindOf (c :: t))).length := List.length_pos_iff.2 hs
              obtain ⟨hF, kF⟩ := fin_box hS2 hkb2 hr hvo (.int .i64 0) (.int .i64 0) (.slice none 0 0)
              clear hs
              go_wp2_with fail
              obtain ⟨d0, d1, d2, _, _, _⟩ := (bx2.set (.int .i64 0) (.int .i64 0) (.slice none 0 0)).facts
              exact bodyPost_ret (v := .tuple #[.agg #[.int .i64 0, .int .i64 0, .slice none 0 0], .int .i64 2]) (by simp [results, Tryz.results78, go_sem, d0, d1, d2]) rfl (leaf_post hF kF (by rw [HV.out]))
          · rw [decide_eq_false hK]
            have HM : Hid (atomS ns ds (c :: t) 0 = atomM ns ds (c :: t)) := by rw [HA.out]; unfold atomN atomM; rw [if_neg hK]; rfl
            go_wp2_with fail
            refine (named_any lo r _ (c :: t) ws ns ds v hS1 hxl (by omega) hd1).mono ?_
            rintro e w2 ⟨rfl, hb2⟩
            rw [← HM.out]
            have hS2 := hS1.below hb2
            have bx2 := bx1.below hb2
            have hkb2 : KB r v w w2 := hkb1.trans (KB.of_below hb2 (v := v)) (OwnNew.refl _ _)
            have hbl := bx2.lt
            obtain ⟨b0, b1, b2, g0, g1, g2⟩ := bx2.facts
            obtain ⟨y, hy⟩ : ∃ y, atomS ns ds (c :: t) 0 = y := ⟨_, rfl⟩
            have HY : Hid (atomS ns ds (c :: t) 0 = y) := hy
            rw [hy]
            clear hy
            unfold leafV
            obtain ⟨hF, kF⟩ := fin_box hS2 hkb2 hr hvo (.int .i64 y.1.1) (.int .i64 y.1.2.1) (.slice none 0 0)
            go_wp2_with fail
            obtain ⟨d0, d1, d2, _, _, _⟩ := (bx2.set (.int .i64 y.1.1) (.int .i64 y.1.2.1) (.slice none 0 0)).facts
            exact bodyPost_ret (v := .tuple #[.agg #[.int .i64 y.1.1, .int .i64 y.1.2.1, .slice none 0 0], .int .i64 y.2]) (by simp [results, Tryz.results78, go_sem, d0, d1, d2]) rfl (leaf_post hF kF (by rw [HY.out]; rfl))
theorem term_all (ds : List (List UInt8)) (hd1 : ds.length ≤ 1152921504606846976) : ∀ n, n ≤ 24 → TermP ds n
  | 0, _ => term_zero ds
  | n + 1, h => term_succ ds hd1 n (by omega) (term_all ds hd1 n (by omega))
end Go.Proofs.YthfjmcomhccbaaaGreatDoor

namespace Go.Proofs.YthfjmcomhccbaaaGreatDoor
open Go.RowKit Tmx
set_option maxRecDepth 60000

/-- How many brackets are open behind a word. -/
def openI (d : Int) (x : List UInt8) : Int := if x = [40] then d + 1 else if x = [41] then d - 1 else d
/-- How many words there are up to where each bracket has its other one. -/
def firstN : Int → List (List UInt8) → Option Nat
  | _, [] => none
  | d, x :: r => if openI d x ≤ 0 then some 1 else (firstN (openI d x) r).map (· + 1)
theorem firstN_pos : ∀ (ws : List (List UInt8)) (d : Int) (k : Nat), firstN d ws = some k → 1 ≤ k ∧ k ≤ ws.length
  | [], _, _, h => by simp [firstN] at h
  | x :: r, d, k, h => by
    rw [firstN] at h
    split at h
    · cases h; simp
    · cases e : firstN (openI d x) r with
      | none => rw [e] at h; simp at h
      | some m =>
        rw [e] at h
        have := firstN_pos r _ m e
        simp only [Option.map_some, Option.some.injEq] at h
        subst h
        simp
        omega

/-- What is behind the first m texts. -/
theorem drop_texts {lo : Nat} {w : World} {p : Option Addr} {n cap m : Nat} {ws : List (List UInt8)} (h : Tx lo w p ws) (hn : n = ws.length) (hm : m ≤ n) (hp : 0 < n → ∃ b o, p = some ⟨b, o, none⟩) (hn0 : 0 < n) (hcap : n ≤ cap) :
    ∃ p' : Option Addr, Tx lo w p' (ws.drop m) ∧ ∀ W : World, (Instr.sliceAt 102 (.slice p n cap) (some (.int .i64 (m : Int))) none none).run Tryz.prog W = .ok (.slice p' (n - m : Nat) (cap - m : Nat)) W := by
  have hel : Tryz.prog.underlying 102 = some (.slice (Tryz.prog.elem 102)) := by kernel_rfl
  have hsz : ∀ W : World, (sizeOf (Tryz.prog.elem 102)).run Tryz.prog W = .ok 1 W := fun W => by kernel_rfl
  obtain ⟨b, o, rfl⟩ := hp hn0
  obtain ⟨b2, o2, h1, h2⟩ := h
  obtain ⟨he, hlo⟩ := h1 (by omega)
  obtain ⟨rfl, rfl⟩ : b = b2 ∧ o = o2 := by simpa using he
  by_cases hc : cap = m
  · have hr0 : ws.drop m = [] := List.drop_of_length_le (by omega)
    refine ⟨some ⟨b, o, none⟩, by rw [hr0]; exact Tx.nil _ _ _, fun W => ?_⟩
    rw [run_sliceAt_slice _ _ _ _ _ _ hel, run_slice_l _ _ _ _ _ hel .i64 (m : Int) (by omega) (by omega), hsz]
    simp [sliced, hc, Result.andThen]
  · refine ⟨some ⟨b, o + m, none⟩, ⟨b, o + m, fun _ => ⟨rfl, hlo⟩, fun i hi => ?_⟩, fun W => ?_⟩
    · have := h2 (m + i) (by rw [List.length_drop] at hi; omega)
      rw [show o + m + i = o + (m + i) by omega, this]
      simp [List.getD_eq_getElem?_getD, List.getElem?_drop]
    · rw [run_sliceAt_slice _ _ _ _ _ _ hel, run_slice_l _ _ _ _ _ hel .i64 (m : Int) (by omega) (by omega), hsz]
      have : ¬ cap - m = 0 := by omega
      simp [sliced, Result.andThen]
      by_cases h0 : m = 0
      · subst h0
        unfold Addr.add
        split <;> simp_all
      · unfold Addr.add
        split <;> simp_all <;> omega
theorem cut_first (b o n cap m : Nat) (hm : m ≤ cap) : ∀ W : World, (Instr.sliceAt 102 (.slice (some ⟨b, o, none⟩) n cap) none (some (.int .i64 (m : Int))) none).run Tryz.prog W = .ok (.slice (some ⟨b, o, none⟩) m cap) W := by
  have hel : Tryz.prog.underlying 102 = some (.slice (Tryz.prog.elem 102)) := by kernel_rfl
  have hsz : ∀ W : World, (sizeOf (Tryz.prog.elem 102)).run Tryz.prog W = .ok 1 W := fun W => by kernel_rfl
  intro W
  rw [run_sliceAt_slice _ _ _ _ _ _ hel, run_slice_h _ _ _ _ _ hel .i64 (m : Int) (by omega) (by omega), hsz]
  simp [sliced, Result.andThen]
  intro _
  unfold Addr.add
  split <;> simp_all
theorem Tx.take {lo : Nat} {w : World} {p : Option Addr} {ws : List (List UInt8)} (h : Tx lo w p ws) (m : Nat) : Tx lo w p (ws.take m) := by
  obtain ⟨b, o, h1, h2⟩ := h
  refine ⟨b, o, fun h0 => h1 (by rw [List.length_take] at h0; omega), fun i hi => ?_⟩
  rw [List.length_take] at hi
  rw [h2 i (by omega)]
  simp [List.getD_eq_getElem?_getD, show i < m by omega]

set_option maxHeartbeats 4000000 in
theorem first_any (lo : Nat) (w : World) (p : Option Addr) (cap : Nat) (ws : List (List UInt8)) (k : Nat) (h : Tx lo w p ws) (hcap : ws.length ≤ cap) (hk : firstN 0 ws = some k) (hlen : ws.length ≤ 1000000) :
    Calls Tryz.prog 58 #[.slice p ws.length cap] w fun e w' => (∃ p2, e = .returned (.tuple #[.slice p k cap, .slice p2 (ws.length - k : Nat) (cap - k : Nat)]) ∧ Tx lo w p2 (ws.drop k)) ∧ Below w.heap.size w w' := by
  have hpos := firstN_pos ws 0 k hk
  obtain ⟨n, hn⟩ : ∃ n, ws.length = n := ⟨_, rfl⟩
  rw [hn] at hcap hpos hlen ⊢
  obtain ⟨b, o, hpe, hlo, _⟩ := h.at (i := 0) (by omega)
  subst hpe
  obtain ⟨p2, ht2, hs2⟩ := drop_texts (cap := cap) (m := k) h hn.symm (by omega) (fun _ => ⟨b, o, rfl⟩) (by omega) hcap
  have HS1 : Hid (∀ W : World, (Instr.sliceAt 102 (.slice (some ⟨b, o, none⟩) n cap) none (some (.int .i64 (k : Int))) none).run Tryz.prog W = .ok (.slice (some ⟨b, o, none⟩) k cap) W) := cut_first b o n cap k (by omega)
  have HS2 : Hid (∀ W : World, (Instr.sliceAt 102 (.slice (some ⟨b, o, none⟩) n cap) (some (.int .i64 (k : Int))) none none).run Tryz.prog W = .ok (.slice p2 (n - k : Nat) (cap - k : Nat)) W) := hs2
  have HT : Hid (Tx lo w p2 (ws.drop k) ∧ Tx lo w (some ⟨b, o, none⟩) ws ∧ firstN 0 ws = some k) := ⟨ht2, h, hk⟩
  obtain ⟨q2, hq2⟩ : ∃ q, q = n - k := ⟨_, rfl⟩
  obtain ⟨r2, hr2⟩ : ∃ q, q = cap - k := ⟨_, rfl⟩
  rw [← hq2, ← hr2] at HS2 ⊢
  have HN : Hid (ws.length = n) := hn
  clear ht2 hs2 h hk hn hq2 hr2
  go_enter Tryz.func58, Tryz.ntmps58
  go_wp2_with fail
  go_loopg [4, 9] k (fun g d ix wr => ∃ (j : Nat) (dd : Int), j < k ∧ g = k - j ∧ ix = .int .i64 (j : Int) ∧ d = .int .i64 dd ∧ -1000000 ≤ dd - j ∧ dd + j ≤ 2 * j + 1000000 ∧ dd ≤ j ∧ wr = w ∧ Hid (firstN dd (ws.drop j) = some (k - j)))
  case atStart => exact ⟨0, 0, by omega, by simp, rfl, rfl, by omega, by omega, by omega, rfl, by show firstN 0 (List.drop 0 ws) = _; simpa using HT.out.2.2⟩
  case round =>
    obtain ⟨j, dd, hj, rfl, rfl, rfl, hd1, hd2, hd3, rfl, HF⟩ := hrel
    have hjn : j < n := by omega
    obtain ⟨b', o', he, _, hcell⟩ := HT.out.2.1.at (i := j) (by rw [HN.out]; exact hjn)
    obtain ⟨rfl, rfl⟩ : b = b' ∧ o = o' := by simpa using he
    obtain ⟨x, hx⟩ : ∃ x, ws.getD j [] = x := ⟨_, rfl⟩
    rw [hx] at hcell
    have HX : Hid (firstN dd (x :: ws.drop (j + 1)) = some (k - j)) := by
      have h1 := HF.out
      have hlt : j < ws.length := by rw [HN.out]; exact hjn
      rw [List.drop_eq_getElem_cons hlt] at h1
      have : ws[j] = x := by rw [← hx]; simp [List.getD_eq_getElem?_getD, List.getElem?_eq_getElem hlt]
      rw [this] at h1
      exact h1
    clear HF hx he
    have fin : ∀ d' : Int, openI dd x = d' → (d' ≤ 0 → k = j + 1) ∧ (¬ d' ≤ 0 → j + 1 < k ∧ Hid (firstN d' (ws.drop (j + 1)) = some (k - (j + 1)))) := by
      intro d' hd
      have h1 := HX.out
      rw [firstN, hd] at h1
      constructor
      · intro h0
        rw [if_pos h0] at h1
        have := Option.some.inj h1
        omega
      · intro h0
        rw [if_neg h0] at h1
        cases e : firstN d' (ws.drop (j + 1)) with
        | none => rw [e] at h1; simp at h1
        | some m =>
          rw [e] at h1
          have hp := firstN_pos _ _ _ e
          simp only [Option.map_some, Option.some.injEq] at h1
          exact ⟨by omega, by show some m = _; congr 1; omega⟩
    cases t1 : (x == [40])
    · cases t2 : (x == [41])
      · obtain ⟨f1, f2⟩ := fin (dd) (by unfold openI; rw [if_neg (by simpa using t1), if_neg (by simpa using t2)])
        clear fin HX
        by_cases h0 : dd ≤ 0
        · obtain rfl := f1 h0
          clear f2
          have S1 := HS1.out
          have S2 := HS2.out
          rw [show ((j + 1 : Nat) : Int) = (j : Int) + 1 by omega] at S1 S2
          go_wp2_with fail
          go_region
          go_wp2_with fail
          go_ret2
          exact ⟨⟨p2, rfl, HT.out.1⟩, (Below.refl _ _).drew⟩
        · obtain ⟨f3, f4⟩ := f2 h0
          clear f1 f2
          go_wp2_with fail
          go_roundg (k - (j + 1))
          case measure => omega
          case rel => exact ⟨j + 1, dd, f3, rfl, by go_num, by go_num, by omega, by omega, by omega, rfl, f4⟩

      · obtain ⟨f1, f2⟩ := fin (dd - 1) (by unfold openI; rw [if_neg (by simpa using t1), if_pos (by simpa using t2)])
        clear fin HX
        by_cases h0 : dd - 1 ≤ 0
        · obtain rfl := f1 h0
          clear f2
          have S1 := HS1.out
          have S2 := HS2.out
          rw [show ((j + 1 : Nat) : Int) = (j : Int) + 1 by omega] at S1 S2
          go_wp2_with fail
          go_region
          go_wp2_with fail
          go_ret2
          exact ⟨⟨p2, rfl, HT.out.1⟩, (Below.refl _ _).drew⟩
        · obtain ⟨f3, f4⟩ := f2 h0
          clear f1 f2
          go_wp2_with fail
          go_roundg (k - (j + 1))
          case measure => omega
          case rel => exact ⟨j + 1, dd - 1, f3, rfl, by go_num, by go_num, by omega, by omega, by omega, rfl, f4⟩

    · obtain ⟨f1, f2⟩ := fin (dd + 1) (by unfold openI; rw [if_pos (by simpa using t1)])
      clear fin HX
      by_cases h0 : dd + 1 ≤ 0
      · obtain rfl := f1 h0
        clear f2
        have S1 := HS1.out
        have S2 := HS2.out
        rw [show ((j + 1 : Nat) : Int) = (j : Int) + 1 by omega] at S1 S2
        go_wp2_with fail
        go_region
        go_wp2_with fail
        go_ret2
        exact ⟨⟨p2, rfl, HT.out.1⟩, (Below.refl _ _).drew⟩
      · obtain ⟨f3, f4⟩ := f2 h0
        clear f1 f2
        go_wp2_with fail
        go_roundg (k - (j + 1))
        case measure => omega
        case rel => exact ⟨j + 1, dd + 1, f3, rfl, by go_num, by go_num, by omega, by omega, by omega, rfl, f4⟩

end Go.Proofs.YthfjmcomhccbaaaGreatDoor
