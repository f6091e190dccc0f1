/-
  Shape: how many each argument of a kind has bound.
-/
/-
  The document's words of kinds.
-/
import Derived.Test.YtcgpjihfligdbaaDoorW1
import Derived.Test.YtcgpjihfligdbaaDoorPlain6
namespace Go.Proofs.YtcgpjihfligdbaaDoor
open Go.RowKit Tmx

set_option maxHeartbeats 1000000 in
theorem shape_any (k : Int) (w : World) :
    Calls Tryd.prog 47 #[.int .i64 k] w fun e w' => e = .returned (.string (shp k)) ∧ Below w.heap.size w w' := by
  by_cases h1 : k < 1
  · have e : shp k = ⟨#[45]⟩ := by unfold shp shpL; rw [if_neg (by omega)]
    rw [e]
    clear e
    go_enter Tryd.func47, Tryd.ntmps47
    go_wp2
    go_ret
    exact ⟨rfl, Below.refl _ _⟩
  · by_cases h2 : 18 < k
    · have e : shp k = ⟨#[45]⟩ := by unfold shp shpL; rw [if_neg (by omega)]
      rw [e]
      clear e
      go_enter Tryd.func47, Tryd.ntmps47
      go_wp2
      go_ret
      exact ⟨rfl, Below.refl _ _⟩
    · have : k = 1 ∨ k = 2 ∨ k = 3 ∨ k = 4 ∨ k = 5 ∨ k = 6 ∨ k = 7 ∨ k = 8 ∨ k = 9 ∨ k = 10 ∨ k = 11 ∨ k = 12 ∨ k = 13 ∨ k = 14 ∨ k = 15 ∨ k = 16 ∨ k = 17 ∨ k = 18 := by omega
      rcases this with rfl | rfl | rfl | rfl | rfl | rfl | rfl | rfl | rfl | rfl | rfl | rfl | rfl | rfl | rfl | rfl | rfl | rfl
      all_goals
        clear h1 h2
        go_enter Tryd.func47, Tryd.ntmps47
        go_wp2
        go_ret
        exact ⟨rfl, (Below.refl _ _).alloc (Nat.le_refl _) _⟩
end Go.Proofs.YtcgpjihfligdbaaDoor

namespace Go.Proofs.YtcgpjihfligdbaaDoor
open Go.RowKit Tmx

set_option maxHeartbeats 1000000 in
theorem word_any (k : Nat) (w : World) (hk : k ≤ 18) :
    Calls Tryd.prog 57 #[.int .i64 (k : Int)] w fun e w' => e = .returned (.string ⟨(wordL k).toArray⟩) ∧ Below w.heap.size w w' := by
  have : k = 0 ∨ k = 1 ∨ k = 2 ∨ k = 3 ∨ k = 4 ∨ k = 5 ∨ k = 6 ∨ k = 7 ∨ k = 8 ∨ k = 9 ∨ k = 10 ∨ k = 11 ∨ k = 12 ∨ k = 13 ∨ k = 14 ∨ k = 15 ∨ k = 16 ∨ k = 17 ∨ k = 18 := by omega
  rcases this with rfl | rfl | rfl | rfl | rfl | rfl | rfl | rfl | rfl | rfl | rfl | rfl | rfl | rfl | rfl | rfl | rfl | rfl | rfl
  all_goals
    clear hk
    go_enter Tryd.func57, Tryd.ntmps57
    go_wp2
    go_ret
    exact ⟨rfl, (Below.refl _ _).alloc (Nat.le_refl _) _⟩

set_option maxHeartbeats 1000000 in
theorem kindOf_any (l : List UInt8) (w : World) :
    Calls Tryd.prog 49 #[.string ⟨l.toArray⟩] w fun e w' => e = .returned (.int .i64 (Tmx.kindOf l)) ∧ Below w.heap.size w w' := by
  obtain ⟨v, hv⟩ : ∃ v, kf 15 l = v := ⟨_, rfl⟩
  have HV0 : Hid (kf 15 l = v) := hv
  rw [show Tmx.kindOf l = v from hv]
  clear hv
  go_enter Tryd.func49, Tryd.ntmps49
  go_wp2_with fail
  go_loopw [3] (fun i wr => ∃ n : Nat, n ≤ 15 ∧ i = .int .i64 ((18 - n : Nat) : Int) ∧ Hid (kf n l = v) ∧ Below w.heap.size w wr) (fun i _ => 18 - (intOf i).toNat)
  case atStart => exact ⟨15, Nat.le_refl _, rfl, HV0, Below.refl _ _⟩
  case round =>
    obtain ⟨n, hn, rfl, hv, hb⟩ := hrel
    cases n with
    | zero =>
      go_wp2_with fail
      go_ret
      have h0 := hv.out
      rw [kf] at h0
      subst h0
      exact ⟨rfl, hb⟩
    | succ n =>
      obtain ⟨j, hj⟩ : ∃ j, 18 - (n + 1) = j := ⟨_, rfl⟩
      have hjn : 17 - n = j := by omega
      rw [hj]
      have hj3 : 3 ≤ j := by omega
      have hj17 : j ≤ 17 := by omega
      have HJ : Hid (17 - n = j) := hjn
      clear hj hjn
      cases t5 : ((j : Int) != 5)
      · have h5 : j = 5 := by have : (j : Int) = 5 := by simpa using t5
                              omega
        have HN : Hid (kf n l = v) := kf_five hv.out (by rw [HJ.out]; exact h5)
        clear h5
        go_wp2_with fail
        go_roundw
        case rel => exact ⟨n, by omega, by have := HJ.out; go_num, HN, hb⟩
        case measure => have := HJ.out; simp [intOf]; omega
      · cases tw : (wordL j == l)
        · have HN : Hid (kf n l = v) := kf_no hv.out (by rw [HJ.out]; exact tw)
          go_wp2_with fail
          refine (word_any j _ (by omega)).mono ?_
          rintro e w1 ⟨rfl, hb1⟩
          go_wp2_with fail
          go_roundw
          case rel => exact ⟨n, by omega, by have := HJ.out; go_num, HN, hb.trans (hb1.mono hb.size)⟩
          case measure => have := HJ.out; simp [intOf]; omega
        · have HN : Hid (v = (j : Int)) := by
            have := kf_yes hv.out (by rw [HJ.out]; intro h; subst h; simp at t5) (by rw [HJ.out]; exact tw)
            rw [HJ.out] at this
            exact this
          go_wp2_with fail
          refine (word_any j _ (by omega)).mono ?_
          rintro e w1 ⟨rfl, hb1⟩
          go_wp2_with fail
          go_ret
          exact ⟨by rw [HN.out]; rfl, hb.trans (hb1.mono hb.size)⟩
end Go.Proofs.YtcgpjihfligdbaaDoor
