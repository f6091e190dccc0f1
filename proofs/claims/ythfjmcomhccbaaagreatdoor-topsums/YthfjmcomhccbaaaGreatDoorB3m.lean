/-
  Binds: how many each argument of a kind has bound.
-/
/-
  The program's reader: the next word; where a name stands last; how many arguments a kind has; the kind behind a bracket.
-/
import Derived.Test.YthfjmcomhccbaaaGreatDoorMem2m
import Derived.Test.YthfjmcomhccbaaaGreatDoorPlain2m
import Derived.Test.YthfjmcomhccbaaaGreatDoorVX3m
import Derived.Deep.RegionLaw
namespace Go.Proofs.YthfjmcomhccbaaaGreatDoor
open Go.RowKit Tmx
set_option maxRecDepth 60000

set_option maxHeartbeats 1000000 in
theorem arity_yes (k : Int) (w : World) (h : 1 ≤ k ∧ k ≤ 18) :
    Calls Tryz.prog 136 #[.int .i64 k] w fun e w' => e = .returned (.tuple #[.int .i64 ((shpL k).length : Int), .bool true]) ∧ w' = w := by
  have : k = 1 ∨ k = 2 ∨ k = 3 ∨ k = 4 ∨ k = 5 ∨ k = 6 ∨ k = 7 ∨ k = 8 ∨ k = 9 ∨ k = 10 ∨ k = 11 ∨ k = 12 ∨ k = 13 ∨ k = 14 ∨ k = 15 ∨ k = 16 ∨ k = 17 ∨ k = 18 := by omega
  rcases this with rfl | rfl | rfl | rfl | rfl | rfl | rfl | rfl | rfl | rfl | rfl | rfl | rfl | rfl | rfl | rfl | rfl | rfl
  all_goals
    clear h
    go_enter Tryz.func136, Tryz.ntmps136
    go_wp2
    go_ret2
    exact ⟨rfl, rfl⟩
set_option maxHeartbeats 1000000 in
theorem arity_no (k : Int) (w : World) (h : ¬ (1 ≤ k ∧ k ≤ 18)) :
    Calls Tryz.prog 136 #[.int .i64 k] w fun e w' => e = .returned (.tuple #[.int .i64 0, .bool false]) ∧ w' = w := by
  by_cases h1 : k < 1
  · clear h
    go_enter Tryz.func136, Tryz.ntmps136
    go_wp2
    go_ret2
    exact ⟨rfl, rfl⟩
  · have h2 : 18 < k := by omega
    clear h h1
    go_enter Tryz.func136, Tryz.ntmps136
    go_wp2
    go_ret2
    exact ⟨rfl, rfl⟩

theorem u25 : Tryz.prog.underlying 48 = some (.slice 3) := by kernel_rfl
theorem i3 : (Tryz.prog.info? 3).map (fun i => (i.zero, i.size, i.bytes)) = some (some (.int .i64 0), 1, 8) := by kernel_rfl
theorem make25 (c : Nat) (h : c ≤ 1000000) (W : World) :
    (Instr.makeSlice 48 (.int .i64 c) (.int .i64 c)).run Tryz.prog W = .ok (.slice (some ⟨W.heap.size, 0, none⟩) c c) (W.alloc (.cells (madeCells #[.int .i64 0] (c * 1)) 3)) := by
  obtain ⟨i, hi, he⟩ := Option.map_eq_some_iff.1 i3
  simp only [Prod.mk.injEq] at he
  obtain ⟨hz, hs, hb⟩ := he
  have := run_make (P := Tryz.prog) W 48 3 i _ u25 hi hz .i64 .i64 (c : Int) (c : Int) (by omega) (by omega) (by rw [hb]; omega) (by omega)
  rw [hs, Int.toNat_natCast] at this
  exact this

set_option maxHeartbeats 1000000 in
theorem binds_new (k : Int) (w : World) (h : 1 ≤ k ∧ k ≤ 18) :
    Calls Tryz.prog 118 #[.int .i64 k] w fun e w' => (∃ g, w.heap.size ≤ g ∧ e = .returned (.tuple #[.slice (some ⟨g, 0, none⟩) (shpL k).length (shpL k).length, .bool true]) ∧ ∀ i, i < (shpL k).length → w'.cell? ⟨g, i, none⟩ = some (.int .i64 (Tmx.bindsAt k i))) ∧ Below w.heap.size w w' := by
  have h4 := shpL_len k
  have HA : Hid (Calls Tryz.prog 136 #[.int .i64 k] w fun e w' => e = .returned (.tuple #[.int .i64 ((shpL k).length : Int), .bool true]) ∧ w' = w) := arity_yes k w h
  obtain ⟨m, hm⟩ : ∃ m, (shpL k).length = m := ⟨_, rfl⟩
  rw [hm] at HA h4 ⊢
  clear hm h
  have hmk := fun W => make25 m (by omega) W
  go_enter Tryz.func118, Tryz.ntmps118
  go_wp2_with fail
  refine HA.out.mono ?_
  rintro e w1 ⟨rfl, rfl⟩
  go_wp2_with fail
  have hrow := World.rowIs_alloc w1 (madeCells #[.int .i64 0] m) 3 (fun i => (madeCells #[.int .i64 0] m)[i]?.getD .nilFunc) (fun i hi => by rw [Array.getElem?_eq_getElem hi]; rfl)
  rw [show (madeCells #[.int .i64 0] m).size = m from size_madeCells _ _] at hrow
  have hb0 : Below w1.heap.size w1 (w1.alloc (.cells (madeCells #[.int .i64 0] m) 3)) := (Below.refl _ _).alloc (Nat.le_refl _) _
  clear hmk
  go_loopw [7, 19] (fun _ i wr => ∃ j : Nat, j ≤ m ∧ i = .int .i64 j ∧ Below w1.heap.size w1 wr ∧ ∃ G, wr.rowIs w1.heap.size 3 m G ∧ ∀ i, i < j → G i = .int .i64 (Tmx.bindsAt k i)) (fun _ i _ => m - (intOf i).toNat)
  case atStart => exact ⟨0, by omega, rfl, hb0, _, hrow, fun i hi => by omega⟩
  case round =>
    clear hrow hb0
    obtain ⟨j, hj, rfl, hb, G, hG, hGi⟩ := hrel
    have HG : Hid (∀ i, i < j → G i = .int .i64 (Tmx.bindsAt k i)) := hGi
    clear hGi
    by_cases hlt : j < m
    · have c1 := hG.cell hlt
      have f1 := hG.frozen j
      go_wp2_with (first | (go_at_call 51; refine (bindsAt_any k j _).mono ?_; rintro e w' ⟨rfl, rfl⟩))
      go_roundw
      case rel =>
        refine ⟨j + 1, hlt, by go_num, hb.setCell (Nat.le_refl _) _, _, hG.set j (.int .i64 (Tmx.bindsAt k j)), fun i hi => ?_⟩
        show (if i = j then _ else G i) = _
        by_cases e : i = j
        · rw [if_pos e, e]
        · rw [if_neg e]; exact HG.out i (by omega)
      case measure => simp [intOf]; omega
    · obtain rfl : j = m := by omega
      go_wp2
      go_ret2
      refine ⟨⟨w1.heap.size, Nat.le_refl _, rfl, fun i hi => ?_⟩, hb⟩
      rw [hG.cell hi, HG.out i hi]
theorem binds_yes (k : Int) (w : World) (h : 1 ≤ k ∧ k ≤ 18) :
    Calls Tryz.prog 118 #[.int .i64 k] w fun e w' => (∃ g, e = .returned (.tuple #[.slice (some ⟨g, 0, none⟩) (shpL k).length (shpL k).length, .bool true]) ∧ ∀ i, i < (shpL k).length → w'.cell? ⟨g, i, none⟩ = some (.int .i64 (Tmx.bindsAt k i))) ∧ Below w.heap.size w w' :=
  (binds_new k w h).mono fun _ _ ⟨⟨g, _, h1, h2⟩, h3⟩ => ⟨⟨g, h1, h2⟩, h3⟩
set_option maxHeartbeats 1000000 in
theorem binds_no (k : Int) (w : World) (h : ¬ (1 ≤ k ∧ k ≤ 18)) :
    Calls Tryz.prog 118 #[.int .i64 k] w fun e w' => e = .returned (.tuple #[.slice none 0 0, .bool false]) ∧ w' = w := by
  have HA : Hid (Calls Tryz.prog 136 #[.int .i64 k] w fun e w' => e = .returned (.tuple #[.int .i64 0, .bool false]) ∧ w' = w) := arity_no k w h
  clear h
  go_enter Tryz.func118, Tryz.ntmps118
  go_wp2_with fail
  refine HA.out.mono ?_
  rintro e w1 ⟨rfl, rfl⟩
  go_wp2_with fail
  go_ret2
  exact ⟨rfl, rfl⟩
end Go.Proofs.YthfjmcomhccbaaaGreatDoor

namespace Go.Proofs.YthfjmcomhccbaaaGreatDoor
open Go.RowKit Tmx
set_option maxRecDepth 60000

/-- What is behind the first text. -/
theorem tail_texts {lo : Nat} {w : World} {b o cap : Nat} {x : List UInt8} {r : List (List UInt8)} (h : Tx lo w (some ⟨b, o, none⟩) (x :: r)) (hcap : r.length + 1 ≤ cap) :
    ∃ b' o' : Nat, Tx lo w (some ⟨b', o', none⟩) r ∧ ∀ W : World, (Instr.sliceAt 102 (.slice (some ⟨b, o, none⟩) (r.length + 1) cap) (some (.int .i64 1)) none none).run Tryz.prog W = .ok (.slice (some ⟨b', o', none⟩) r.length (cap - 1)) W := by
  have hel : Tryz.prog.underlying 102 = some (.slice (Tryz.prog.elem 102)) := by kernel_rfl
  have hsz : ∀ W : World, (sizeOf (Tryz.prog.elem 102)).run Tryz.prog W = .ok 1 W := fun W => by kernel_rfl
  obtain ⟨b2, o2, h1, h2⟩ := h
  obtain ⟨he, hlo⟩ := h1 (by simp)
  obtain ⟨rfl, rfl⟩ : b = b2 ∧ o = o2 := by simpa using he
  by_cases hc : cap = 1
  · have hr0 : r = [] := List.eq_nil_of_length_eq_zero (by omega)
    refine ⟨b, o, by rw [hr0]; exact Tx.nil _ _ _, fun W => ?_⟩
    rw [run_sliceAt_slice _ _ _ _ _ _ hel, run_slice_l _ _ _ _ _ hel .i64 1 (by omega) (by omega), hsz]
    simp [sliced, hc, Result.andThen]
  · refine ⟨b, o + 1, ⟨b, o + 1, fun _ => ⟨rfl, hlo⟩, fun i hi => ?_⟩, fun W => ?_⟩
    · have := h2 (i + 1) (by simp; omega)
      rw [show o + 1 + i = o + (i + 1) by omega, this]
      rfl
    · rw [run_sliceAt_slice _ _ _ _ _ _ hel, run_slice_l _ _ _ _ _ hel .i64 1 (by omega) (by omega), hsz]
      simp [sliced, hc, Result.andThen]
      unfold Addr.add
      split <;> simp_all

theorem NamesIn.set {lo r : Nat} {w : World} {v : Value} {ns : List (List UInt8)} (h : NamesIn lo w v ns) (ho : v.ownBlock ≠ some r) {k : Nat} (u : Value) : NamesIn lo (w.setCell ⟨r, k, none⟩ u) v ns := by
  obtain ⟨g1, g2⟩ := h
  refine ⟨g1, ?_⟩
  rcases g2 with g2 | ⟨g, cap, cur, rfl, hg, hh, hr⟩
  · exact .inl g2
  · exact .inr ⟨g, cap, cur, rfl, hg, by rw [Below.heap_setCell _ _ _ _ (by show g ≠ r; intro e; exact ho (by rw [← e]; rfl))]; exact hh, hr⟩

set_option maxHeartbeats 1000000 in
set_option maxRecDepth 60000 in
theorem next_some (lo r : Nat) (w : World) (x : List UInt8) (ws ns ds : List (List UInt8)) (v : Value) (h : RS lo r w (x :: ws) ns ds v) :
    Calls Tryz.prog 93 #[.pointer (some ⟨r, 0, none⟩)] w fun e w' => e = .returned (.tuple #[.string ⟨x.toArray⟩, .bool true]) ∧ RS lo r w' ws ns ds v ∧ Kept r w w' := by
  obtain ⟨pw, cw, pd, cd, h1, h2, h3, h4⟩ := h.blk
  obtain ⟨b, o, rfl, hlo, hx⟩ := h2.at (i := 0) (by simp)
  rw [Nat.add_zero, List.getD_cons_zero] at hx
  obtain ⟨b1, o1, ht1, hsl⟩ := tail_texts h2 (by simpa using h3)
  rw [List.length_cons] at h1 h3
  obtain ⟨c0, c1, c2, f0, f1, f2⟩ := h1.facts
  go_enter Tryz.func93, Tryz.ntmps93
  go_wp2_with fail
  go_ret2
  refine ⟨rfl, ⟨⟨_, _, pd, cd, h1.setW _, ?_, by omega, ?_⟩, ?_, h.own, h.lor, ?_⟩, Kept.set _ ⟨r, 0, none⟩ _⟩
  · exact ht1.along fun b hb _ => Below.heap_setCell _ _ _ _ (by have := h.lor; show b ≠ r; omega)
  · exact h4.along fun b hb _ => Below.heap_setCell _ _ _ _ (by have := h.lor; show b ≠ r; omega)
  · exact NamesIn.set h.names h.own _
  · exact h.vs.along fun g hg _ => Below.heap_setCell _ _ _ _ (by have := h.lor; have := h.vs.1; show g ≠ r; omega)
set_option maxHeartbeats 1000000 in
set_option maxRecDepth 60000 in
theorem next_none' (lo r : Nat) (w : World) (ns ds : List (List UInt8)) (v : Value) (h : RS lo r w [] ns ds v) :
    Calls Tryz.prog 93 #[.pointer (some ⟨r, 0, none⟩)] w fun e w' => e = .returned (.tuple #[.string ⟨#[]⟩, .bool false]) ∧ w' = w := by
  obtain ⟨pw, cw, pd, cd, h1, h2, h3, h4⟩ := h.blk
  rw [List.length_nil] at h1
  obtain ⟨c0, c1, c2, f0, f1, f2⟩ := h1.facts
  clear h h1 h2 h3 h4
  go_enter Tryz.func93, Tryz.ntmps93
  go_wp2_with fail
  go_ret2
  exact ⟨rfl, rfl⟩

/-- Where a name stands last, as a number. -/
def flI (ns : List (List UInt8)) (wd : List UInt8) (n : Nat) : Int := match fl ns wd n with
  | some i => (i : Int)
  | none => -1
theorem flI_zero (ns : List (List UInt8)) (wd : List UInt8) : flI ns wd 0 = -1 := rfl
theorem flI_yes {ns : List (List UInt8)} {wd : List UInt8} {n : Nat} (hw : (ns.getD n [] == wd) = true) : flI ns wd (n + 1) = (n : Int) := by
  unfold flI
  rw [fl, if_pos (by simpa using hw)]
theorem flI_no {ns : List (List UInt8)} {wd : List UInt8} {n : Nat} (hw : (ns.getD n [] == wd) = false) : flI ns wd (n + 1) = flI ns wd n := by
  unfold flI
  rw [fl, if_neg (by simpa using hw)]
set_option maxHeartbeats 1000000 in
set_option maxRecDepth 60000 in
theorem lastOf_any (r : Nat) (w : World) (p : Option Addr) (c : Nat) (ns : List (List UInt8)) (wd : List UInt8) (h : Strs r w p ns) (hl : ns.length ≤ 1152921504606846976) :
    Calls Tryz.prog 122 #[.slice p ns.length c, .string ⟨wd.toArray⟩] w fun e w' => e = .returned (.int .i64 (flI ns wd ns.length)) ∧ w' = w := by
  obtain ⟨v, hv⟩ : ∃ v, flI ns wd ns.length = v := ⟨_, rfl⟩
  have HV0 : Hid (flI ns wd ns.length = v) := hv
  rw [hv]
  clear hv
  go_enter Tryz.func122, Tryz.ntmps122
  go_wp2_with fail
  go_loopg [5] ns.length (fun g i wr => ∃ j : Nat, g = j ∧ j ≤ ns.length ∧ i = .int .i64 ((j : Int) - 1) ∧ Hid (flI ns wd j = v) ∧ wr = w)
  case atStart => exact ⟨_, rfl, Nat.le_refl _, rfl, HV0, rfl⟩
  case round =>
    obtain ⟨j, hgj, hg, rfl, HV, rfl⟩ := hrel
    cases j with
    | zero =>
      have HN : Hid (v = -1) := by have := HV.out; rw [flI_zero] at this; exact this.symm
      go_wp2_with fail
      go_ret
      exact ⟨by rw [HN.out]; rfl, rfl⟩
    | succ n =>
      obtain ⟨b, o, rfl, hbr, hcell⟩ := h.at (i := n) (by omega)
      obtain ⟨x, hx⟩ : ∃ x, ns.getD n [] = x := ⟨_, rfl⟩
      rw [hx] at hcell
      rw [show ((n + 1 : Nat) : Int) - 1 = (n : Int) by omega]
      cases tw : (x == wd)
      · have HN : Hid (flI ns wd n = v) := by have := HV.out; rw [flI_no (by rw [hx]; exact tw)] at this; exact this
        clear HV hx
        go_wp2_with fail
        go_roundg n
        case measure => omega
        case rel => exact ⟨n, rfl, by omega, rfl, HN, rfl⟩
      · have HN : Hid (v = (n : Int)) := by have := HV.out; rw [flI_yes (by rw [hx]; exact tw)] at this; exact this.symm
        clear HV hx
        go_wp2_with fail
        go_ret
        exact ⟨by rw [HN.out]; rfl, rfl⟩

set_option maxHeartbeats 1000000 in
set_option maxRecDepth 60000 in
theorem many_any (k : Int) (w : World) (h : 1 ≤ k ∧ k ≤ 18) :
    Calls Tryz.prog 96 #[.int .i64 k] w fun e w' => e = .returned (.int .i64 ((shpL k).length : Int)) ∧ Below w.heap.size w w' := by
  have hlen := shpL_len k
  go_enter Tryz.func96, Tryz.ntmps96
  go_wp2_with fail
  refine (binds_yes k _ h).mono ?_
  rintro e w1 ⟨⟨g, rfl, hg⟩, hb1⟩
  clear hg
  go_wp2_with fail
  go_ret
  exact ⟨rfl, hb1⟩

set_option maxHeartbeats 1000000 in
set_option maxRecDepth 60000 in
theorem head_any (lo r : Nat) (w : World) (ws ns ds : List (List UInt8)) (v : Value) (h : RS lo r w ws ns ds v) :
    Calls Tryz.prog 117 #[.pointer (some ⟨r, 0, none⟩)] w fun e w' => e = .returned (.int .i64 (headKT ws)) ∧ RS lo r w' (headTT ws) ns ds v ∧ Kept r w w' := by
  cases ws with
  | nil =>
    obtain ⟨pw, cw, pd, cd, h1, h2, h3, h4⟩ := h.blk
    rw [List.length_nil] at h1
    obtain ⟨c0, c1, c2, f0, f1, f2⟩ := h1.facts
    rw [show headKT [] = 5 by decide, show headTT [] = [] by decide]
    have HS : Hid (RS lo r w [] ns ds v) := h
    clear h h1 h2 h3 h4
    go_enter Tryz.func117, Tryz.ntmps117
    go_wp2_with fail
    go_ret
    exact ⟨rfl, HS.out, Kept.refl _ _⟩
  | cons x ws =>
    obtain ⟨pw, cw, pd, cd, h1, h2, h3, h4⟩ := h.blk
    obtain ⟨b, o, rfl, hlo, hx⟩ := h2.at (i := 0) (by simp)
    rw [Nat.add_zero, List.getD_cons_zero] at hx
    rw [List.length_cons] at h1 h3
    obtain ⟨c0, c1, c2, f0, f1, f2⟩ := h1.facts
    have HS : Hid (RS lo r w (x :: ws) ns ds v) := h
    have hkn := kindOf_nn x
    have hk17 : Tmx.kindOf x ≤ 17 := kf_le 15 x
    have HH : Hid (headKT (x :: ws) = (if 0 < Tmx.kindOf x ∧ shpL (Tmx.kindOf x) ≠ [] then Tmx.kindOf x else 5) ∧ headTT (x :: ws) = (if 0 < Tmx.kindOf x ∧ shpL (Tmx.kindOf x) ≠ [] then ws else x :: ws)) := ⟨rfl, rfl⟩
    clear h h2 h3 h4
    go_enter Tryz.func117, Tryz.ntmps117
    go_wp2_with fail
    refine (pkindOf_any x w lo HS.out.vs).mono ?_
    rintro e w1 ⟨rfl, rfl⟩
    by_cases hk : 0 < Tmx.kindOf x
    · have hd : decide (0 < Tmx.kindOf x) = true := decide_eq_true hk
      rw [hd]
      clear hd
      have hsl := shpL_len (Tmx.kindOf x)
      go_wp2_with fail
      refine (many_any (Tmx.kindOf x) _ (by omega)).mono ?_
      rintro e w2 ⟨rfl, hb2⟩
      by_cases hs : shpL (Tmx.kindOf x) = []
      · have HH2 : Hid (headKT (x :: ws) = 5 ∧ headTT (x :: ws) = x :: ws) := by
          rw [HH.out.1, HH.out.2, if_neg (fun h => h.2 hs), if_neg (fun h => h.2 hs)]
          exact ⟨rfl, rfl⟩
        rw [hs]
        clear hs hsl
        go_wp2_with fail
        go_ret
        exact ⟨by rw [HH2.out.1]; rfl, by rw [HH2.out.2]; exact HS.out.below hb2, Kept.of_below hb2⟩
      · have HH2 : Hid (headKT (x :: ws) = Tmx.kindOf x ∧ headTT (x :: ws) = ws) := by
          rw [HH.out.1, HH.out.2, if_pos ⟨hk, hs⟩, if_pos ⟨hk, hs⟩]
          exact ⟨rfl, rfl⟩
        have hs0 : 0 < (shpL (Tmx.kindOf x)).length := List.length_pos_iff.2 hs
        clear hs
        go_wp2_with fail
        refine (next_some lo r w2 x ws ns ds v (HS.out.below hb2)).mono ?_
        rintro e w3 ⟨rfl, h3, hk3⟩
        go_wp2_with fail
        go_ret
        exact ⟨by rw [HH2.out.1]; rfl, by rw [HH2.out.2]; exact h3, (Kept.of_below hb2).trans hk3⟩
    · have hd : decide (0 < Tmx.kindOf x) = false := decide_eq_false hk
      rw [hd]
      clear hd
      have HH2 : Hid (headKT (x :: ws) = 5 ∧ headTT (x :: ws) = x :: ws) := by
        rw [HH.out.1, HH.out.2, if_neg (fun h => hk h.1), if_neg (fun h => hk h.1)]
        exact ⟨rfl, rfl⟩
      go_wp2_with fail
      go_ret
      exact ⟨by rw [HH2.out.1]; rfl, by rw [HH2.out.2]; exact HS.out, Kept.refl _ _⟩
end Go.Proofs.YthfjmcomhccbaaaGreatDoor
