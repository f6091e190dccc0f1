/-
  The program's names.
-/
import Derived.Test.YtcgpjihfligdbaaDoorX1
import Derived.Test.YtcgpjihfligdbaaDoorW14
namespace Go.Proofs.YtcgpjihfligdbaaDoor
open Go.RowKit Tmx
set_option maxRecDepth 60000

theorem kindOf_nn (l : List UInt8) : 0 ≤ Tmx.kindOf l := by
  rw [← pf_kind]
  exact (pf_bd 18 l (Nat.le_refl _)).1
theorem nameB_lower {l : List UInt8} (h1 : (l == []) = false) (h2 : l.length ≤ 8) (h3 : (l == [100, 101, 102]) = false) (h4 : lower l = true) : nameB l = !decide (0 < Tmx.kindOf l) := by
  unfold nameB
  have h := kindOf_nn l
  by_cases h5 : 0 < Tmx.kindOf l
  · rw [decide_eq_true h5, decide_eq_false (show ¬ Tmx.kindOf l ≤ 0 by omega)]
    simp
  · rw [decide_eq_false h5, decide_eq_true (show Tmx.kindOf l ≤ 0 by omega)]
    simp [h1, h2, h3, h4]
theorem nameB_upper {l : List UInt8} (h4 : lower l = false) : nameB l = false := by
  unfold nameB
  rw [h4]
  simp

set_option maxHeartbeats 1000000 in
set_option maxRecDepth 60000 in
theorem pname_any (l : List UInt8) (w : World) (r : Nat) (hv : Vs r w) (hl : l.length ≤ 4611686018427387904) :
    Calls Tryd.prog 18 #[.string ⟨l.toArray⟩] w fun e w' => e = .returned (.bool (nameB l)) ∧ w' = w := by
  have HVS : Hid (Vs r w) := hv
  clear hv
  cases t1 : (l == [])
  · have hne : 1 ≤ l.length := by
      cases l with
      | nil => simp at t1
      | cons => simp
    by_cases t2 : 8 < l.length
    · rw [show nameB l = false by unfold nameB; rw [decide_eq_false (show ¬ l.length ≤ 8 by omega)]; simp]
      go_enter Tryd.func18, Tryd.ntmps18
      go_wp2_with fail
      go_ret
      exact ⟨rfl, rfl⟩
    · cases t3 : (l == [100, 101, 102])
      · have HV : Hid ((lower l = true → nameB l = !decide (0 < Tmx.kindOf l)) ∧ (lower l = false → nameB l = false)) := ⟨nameB_lower t1 (by omega) t3, nameB_upper⟩
        generalize nameB l = v at HV ⊢
        go_enter Tryd.func18, Tryd.ntmps18
        go_wp2_with fail
        go_loopg [3, 20] l.length (fun g _ i wr => ∃ j : Nat, j ≤ l.length ∧ g = l.length - j ∧ i = .int .i64 (j : Int) ∧ Hid (lower (l.drop j) = lower l) ∧ wr = w)
        case atStart => exact ⟨0, Nat.zero_le _, by simp, rfl, by show lower (l.drop 0) = _; simp, rfl⟩
        case round =>
          obtain ⟨j, hj, rfl, rfl, hv, rfl⟩ := hrel
          by_cases hlt : j < l.length
          · have hd := lower_drop hlt
            obtain ⟨d, hdd⟩ : ∃ d, l[j] = d := ⟨_, rfl⟩
            rw [hdd] at hd
            have hby : ({ data := l.toArray } : ByteArray)[j]'(by simpa [ByteArray.size] using hlt) = d := hdd
            clear hdd
            by_cases q1 : (d.toNat : Int) < 97
            · have HF : Hid (v = false) := by
                have h0 := hv.out
                have : ¬ (97 ≤ d) := by rw [UInt8.le_iff_toNat_le]; show ¬ 97 ≤ d.toNat; omega
                rw [hd, decide_eq_false this] at h0
                exact HV.out.2 (by simpa using h0.symm)
              have e1 : decide ((d.toNat : Int) < 97) = true := by simp; omega
              clear hd
              go_wp2_with fail
              go_ret
              exact ⟨by rw [HF.out]; rfl, rfl⟩
            · have e1 : decide ((d.toNat : Int) < 97) = false := by simp; omega
              by_cases q2 : 122 < (d.toNat : Int)
              · have HF : Hid (v = false) := by
                  have h0 := hv.out
                  have : ¬ (d ≤ 122) := by rw [UInt8.le_iff_toNat_le]; show ¬ d.toNat ≤ 122; omega
                  rw [hd, decide_eq_false this] at h0
                  exact HV.out.2 (by simpa using h0.symm)
                have e2 : decide ((122 : Int) < (d.toNat : Int)) = true := by simp; omega
                clear hd
                go_wp2_with fail
                go_ret
                exact ⟨by rw [HF.out]; rfl, rfl⟩
              · have e2 : decide ((122 : Int) < (d.toNat : Int)) = false := by simp; omega
                have HF : Hid (lower (l.drop (j + 1)) = lower l) := by
                  have h0 := hv.out
                  have a1 : 97 ≤ d := by rw [UInt8.le_iff_toNat_le]; show 97 ≤ d.toNat; omega
                  have a2 : d ≤ 122 := by rw [UInt8.le_iff_toNat_le]; show d.toNat ≤ 122; omega
                  rw [hd, decide_eq_true a1, decide_eq_true a2] at h0
                  show lower (l.drop (j + 1)) = _
                  simpa using h0
                clear hd
                go_wp2_with fail
                go_roundg (l.length - (j + 1))
                case measure => omega
                case rel => exact ⟨j + 1, hlt, rfl, by go_num, HF, rfl⟩
          · have HF : Hid (v = !decide (0 < Tmx.kindOf l)) := by
              have h0 := hv.out
              rw [List.drop_of_length_le (by omega), lower] at h0
              exact HV.out.1 h0.symm
            go_wp2_with fail
            refine (pkindOf_any l _ r HVS.out).mono ?_
            rintro e w1 ⟨rfl, rfl⟩
            go_wp2_with fail
            go_ret
            exact ⟨by rw [HF.out]; rfl, rfl⟩
      · rw [show nameB l = false by unfold nameB; rw [t3]; simp]
        go_enter Tryd.func18, Tryd.ntmps18
        go_wp2_with fail
        go_ret
        exact ⟨rfl, rfl⟩
  · obtain rfl : l = [] := by simpa using t1
    go_enter Tryd.func18, Tryd.ntmps18
    go_wp2_with fail
    go_ret
    exact ⟨rfl, rfl⟩
end Go.Proofs.YtcgpjihfligdbaaDoor
