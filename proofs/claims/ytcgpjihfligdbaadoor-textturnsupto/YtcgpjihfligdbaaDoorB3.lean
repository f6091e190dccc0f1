/-
  Binds: how many each argument of a kind has bound.
-/
import Derived.Test.YtcgpjihfligdbaaDoorW1
import Derived.Test.YtcgpjihfligdbaaDoorMem2
import Derived.Test.YtcgpjihfligdbaaDoorPlain2m
namespace Go.Proofs.YtcgpjihfligdbaaDoor
open Go.RowKit Tmx
set_option maxRecDepth 60000

set_option maxHeartbeats 1000000 in
theorem arity_yes (k : Int) (w : World) (h : 1 ≤ k ∧ k ≤ 18) :
    Calls Tryd.prog 72 #[.int .i64 k] w fun e w' => e = .returned (.tuple #[.int .i64 ((shpL k).length : Int), .bool true]) ∧ w' = w := by
  have : k = 1 ∨ k = 2 ∨ k = 3 ∨ k = 4 ∨ k = 5 ∨ k = 6 ∨ k = 7 ∨ k = 8 ∨ k = 9 ∨ k = 10 ∨ k = 11 ∨ k = 12 ∨ k = 13 ∨ k = 14 ∨ k = 15 ∨ k = 16 ∨ k = 17 ∨ k = 18 := by omega
  rcases this with rfl | rfl | rfl | rfl | rfl | rfl | rfl | rfl | rfl | rfl | rfl | rfl | rfl | rfl | rfl | rfl | rfl | rfl
  all_goals
    clear h
    go_enter Tryd.func72, Tryd.ntmps72
    go_wp2
    go_ret2
    exact ⟨rfl, rfl⟩
set_option maxHeartbeats 1000000 in
theorem arity_no (k : Int) (w : World) (h : ¬ (1 ≤ k ∧ k ≤ 18)) :
    Calls Tryd.prog 72 #[.int .i64 k] w fun e w' => e = .returned (.tuple #[.int .i64 0, .bool false]) ∧ w' = w := by
  by_cases h1 : k < 1
  · clear h
    go_enter Tryd.func72, Tryd.ntmps72
    go_wp2
    go_ret2
    exact ⟨rfl, rfl⟩
  · have h2 : 18 < k := by omega
    clear h h1
    go_enter Tryd.func72, Tryd.ntmps72
    go_wp2
    go_ret2
    exact ⟨rfl, rfl⟩

theorem u25 : Tryd.prog.underlying 61 = some (.slice 3) := by kernel_rfl
theorem i3 : (Tryd.prog.info? 3).map (fun i => (i.zero, i.size, i.bytes)) = some (some (.int .i64 0), 1, 8) := by kernel_rfl
theorem make25 (c : Nat) (h : c ≤ 1000000) (W : World) :
    (Instr.makeSlice 61 (.int .i64 c) (.int .i64 c)).run Tryd.prog W = .ok (.slice (some ⟨W.heap.size, 0, none⟩) c c) (W.alloc (.cells (madeCells #[.int .i64 0] (c * 1)) 3)) := by
  obtain ⟨i, hi, he⟩ := Option.map_eq_some_iff.1 i3
  simp only [Prod.mk.injEq] at he
  obtain ⟨hz, hs, hb⟩ := he
  have := run_make (P := Tryd.prog) W 61 3 i _ u25 hi hz .i64 .i64 (c : Int) (c : Int) (by omega) (by omega) (by rw [hb]; omega) (by omega)
  rw [hs, Int.toNat_natCast] at this
  exact this

set_option maxHeartbeats 1000000 in
theorem binds_new (k : Int) (w : World) (h : 1 ≤ k ∧ k ≤ 18) :
    Calls Tryd.prog 35 #[.int .i64 k] w fun e w' => (∃ g, w.heap.size ≤ g ∧ e = .returned (.tuple #[.slice (some ⟨g, 0, none⟩) (shpL k).length (shpL k).length, .bool true]) ∧ ∀ i, i < (shpL k).length → w'.cell? ⟨g, i, none⟩ = some (.int .i64 (Tmx.bindsAt k i))) ∧ Below w.heap.size w w' := by
  have h4 := shpL_len k
  have HA : Hid (Calls Tryd.prog 72 #[.int .i64 k] w fun e w' => e = .returned (.tuple #[.int .i64 ((shpL k).length : Int), .bool true]) ∧ w' = w) := arity_yes k w h
  obtain ⟨m, hm⟩ : ∃ m, (shpL k).length = m := ⟨_, rfl⟩
  rw [hm] at HA h4 ⊢
  clear hm h
  have hmk := fun W => make25 m (by omega) W
  go_enter Tryd.func35, Tryd.ntmps35
  go_wp2_with fail
  refine HA.out.mono ?_
  rintro e w1 ⟨rfl, rfl⟩
  go_wp2_with fail
  have hrow := World.rowIs_alloc w1 (madeCells #[.int .i64 0] m) 3 (fun i => (madeCells #[.int .i64 0] m)[i]?.getD .nilFunc) (fun i hi => by rw [Array.getElem?_eq_getElem hi]; rfl)
  rw [show (madeCells #[.int .i64 0] m).size = m from size_madeCells _ _] at hrow
  have hb0 : Below w1.heap.size w1 (w1.alloc (.cells (madeCells #[.int .i64 0] m) 3)) := (Below.refl _ _).alloc (Nat.le_refl _) _
  clear hmk
  go_loopw [7, 19] (fun _ i wr => ∃ j : Nat, j ≤ m ∧ i = .int .i64 j ∧ Below w1.heap.size w1 wr ∧ ∃ G, wr.rowIs w1.heap.size 3 m G ∧ ∀ i, i < j → G i = .int .i64 (Tmx.bindsAt k i)) (fun _ i _ => m - (intOf i).toNat)
  case atStart => exact ⟨0, by omega, rfl, hb0, _, hrow, fun i hi => by omega⟩
  case round =>
    clear hrow hb0
    obtain ⟨j, hj, rfl, hb, G, hG, hGi⟩ := hrel
    have HG : Hid (∀ i, i < j → G i = .int .i64 (Tmx.bindsAt k i)) := hGi
    clear hGi
    by_cases hlt : j < m
    · have c1 := hG.cell hlt
      have f1 := hG.frozen j
      go_wp2_with (first | (go_at_call 73; refine (bindsAt_any k j _).mono ?_; rintro e w' ⟨rfl, rfl⟩))
      go_roundw
      case rel =>
        refine ⟨j + 1, hlt, by go_num, hb.setCell (Nat.le_refl _) _, _, hG.set j (.int .i64 (Tmx.bindsAt k j)), fun i hi => ?_⟩
        show (if i = j then _ else G i) = _
        by_cases e : i = j
        · rw [if_pos e, e]
        · rw [if_neg e]; exact HG.out i (by omega)
      case measure => simp [intOf]; omega
    · obtain rfl : j = m := by omega
      go_wp2
      go_ret2
      refine ⟨⟨w1.heap.size, Nat.le_refl _, rfl, fun i hi => ?_⟩, hb⟩
      rw [hG.cell hi, HG.out i hi]
theorem binds_yes (k : Int) (w : World) (h : 1 ≤ k ∧ k ≤ 18) :
    Calls Tryd.prog 35 #[.int .i64 k] w fun e w' => (∃ g, e = .returned (.tuple #[.slice (some ⟨g, 0, none⟩) (shpL k).length (shpL k).length, .bool true]) ∧ ∀ i, i < (shpL k).length → w'.cell? ⟨g, i, none⟩ = some (.int .i64 (Tmx.bindsAt k i))) ∧ Below w.heap.size w w' :=
  (binds_new k w h).mono fun _ _ ⟨⟨g, _, h1, h2⟩, h3⟩ => ⟨⟨g, h1, h2⟩, h3⟩
set_option maxHeartbeats 1000000 in
theorem binds_no (k : Int) (w : World) (h : ¬ (1 ≤ k ∧ k ≤ 18)) :
    Calls Tryd.prog 35 #[.int .i64 k] w fun e w' => e = .returned (.tuple #[.slice none 0 0, .bool false]) ∧ w' = w := by
  have HA : Hid (Calls Tryd.prog 72 #[.int .i64 k] w fun e w' => e = .returned (.tuple #[.int .i64 0, .bool false]) ∧ w' = w) := arity_no k w h
  clear h
  go_enter Tryd.func35, Tryd.ntmps35
  go_wp2_with fail
  refine HA.out.mono ?_
  rintro e w1 ⟨rfl, rfl⟩
  go_wp2_with fail
  go_ret2
  exact ⟨rfl, rfl⟩
end Go.Proofs.YtcgpjihfligdbaaDoor
