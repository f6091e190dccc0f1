/-
  The document's names.
-/
import Derived.Test.YtcgpjihfligdbaaDoorW13
import Derived.Deep.LoopGhost
namespace Go.Proofs.YtcgpjihfligdbaaDoor
open Go.RowKit Tmx

theorem lower_drop {l : List UInt8} {j : Nat} (h : j < l.length) : lower (l.drop j) = (decide (97 ≤ l[j]) && decide (l[j] ≤ 122) && lower (l.drop (j + 1))) := by
  rw [List.drop_eq_getElem_cons h, lower]
theorem nameB_of {l : List UInt8} (h1 : (l == []) = false) (h2 : l.length ≤ 8) (h3 : (l == [100, 101, 102]) = false) (h4 : Tmx.kindOf l ≤ 0) : nameB l = lower l := by
  unfold nameB
  simp [h1, h2, h3, h4]

set_option maxHeartbeats 1000000 in
theorem name_any (l : List UInt8) (w : World) (hl : l.length ≤ 4611686018427387904) :
    Calls Tryd.prog 19 #[.string ⟨l.toArray⟩] w fun e w' => e = .returned (.bool (nameB l)) ∧ Below w.heap.size w w' := by
  cases t1 : (l == [])
  · by_cases t2 : 8 < l.length
    · rw [show nameB l = false by unfold nameB; rw [decide_eq_false (show ¬ l.length ≤ 8 by omega)]; simp]
      have td : decide ((8 : Int) < (l.length : Int)) = true := by simp; omega
      go_enter Tryd.func19, Tryd.ntmps19
      go_wp2_with fail
      go_ret
      exact ⟨rfl, Below.refl _ _⟩
    · have td : decide ((8 : Int) < (l.length : Int)) = false := by simp; omega
      cases t3 : (l == [100, 101, 102])
      · by_cases t4 : Tmx.kindOf l ≤ 0
        · have td4 : decide ((0 : Int) < Tmx.kindOf l) = false := by simp; omega
          have HV : Hid (nameB l = lower l) := nameB_of t1 (by omega) t3 t4
          generalize nameB l = v at HV ⊢
          go_enter Tryd.func19, Tryd.ntmps19
          go_wp2_with fail
          refine (kindOf_any l _).mono ?_
          rintro e w1 ⟨rfl, hb1⟩
          go_wp2_with fail
          go_loopg [3, 22] l.length (fun g _ i wr => ∃ j : Nat, j ≤ l.length ∧ g = l.length - j ∧ i = .int .i64 (j : Int) ∧ Hid (lower (l.drop j) = v) ∧ wr = w1)
          case atStart => exact ⟨0, Nat.zero_le _, by simp, rfl, by show lower (l.drop 0) = v; simpa using HV.out.symm, rfl⟩
          case round =>
            obtain ⟨j, hj, rfl, rfl, hv, rfl⟩ := hrel
            by_cases hlt : j < l.length
            · have hd := lower_drop hlt
              obtain ⟨d, hdd⟩ : ∃ d, l[j] = d := ⟨_, rfl⟩
              rw [hdd] at hd
              have hby : ({ data := l.toArray } : ByteArray)[j]'(by simpa [ByteArray.size] using hlt) = d := hdd
              clear hdd
              by_cases q1 : (d.toNat : Int) < 97
              · have HF : Hid (v = false) := by
                  have h0 := hv.out
                  have : ¬ (97 ≤ d) := by rw [UInt8.le_iff_toNat_le]; show ¬ 97 ≤ d.toNat; omega
                  rw [hd, decide_eq_false this] at h0
                  show v = false
                  simpa using h0.symm
                have e1 : decide ((d.toNat : Int) < 97) = true := by simp; omega
                clear hd
                go_wp2_with fail
                go_ret
                exact ⟨by rw [HF.out]; rfl, hb1⟩
              · have e1 : decide ((d.toNat : Int) < 97) = false := by simp; omega
                by_cases q2 : 122 < (d.toNat : Int)
                · have HF : Hid (v = false) := by
                    have h0 := hv.out
                    have : ¬ (d ≤ 122) := by rw [UInt8.le_iff_toNat_le]; show ¬ d.toNat ≤ 122; omega
                    rw [hd, decide_eq_false this] at h0
                    show v = false
                    simpa using h0.symm
                  have e2 : decide ((122 : Int) < (d.toNat : Int)) = true := by simp; omega
                  clear hd
                  go_wp2_with fail
                  go_ret
                  exact ⟨by rw [HF.out]; rfl, hb1⟩
                · have e2 : decide ((122 : Int) < (d.toNat : Int)) = false := by simp; omega
                  have HF : Hid (lower (l.drop (j + 1)) = v) := by
                    have h0 := hv.out
                    have a1 : 97 ≤ d := by rw [UInt8.le_iff_toNat_le]; show 97 ≤ d.toNat; omega
                    have a2 : d ≤ 122 := by rw [UInt8.le_iff_toNat_le]; show d.toNat ≤ 122; omega
                    rw [hd, decide_eq_true a1, decide_eq_true a2] at h0
                    show lower (l.drop (j + 1)) = v
                    simpa using h0
                  clear hd
                  go_wp2_with fail
                  go_roundg (l.length - (j + 1))
                  case measure => omega
                  case rel => exact ⟨j + 1, hlt, rfl, by go_num, HF, rfl⟩
            · go_wp2_with fail
              go_ret
              have h0 := hv.out
              rw [List.drop_of_length_le (by omega), lower] at h0
              subst h0
              exact ⟨rfl, hb1⟩
        · have td4 : decide ((0 : Int) < Tmx.kindOf l) = true := by simp; omega
          rw [show nameB l = false by unfold nameB; rw [decide_eq_false t4]; simp]
          go_enter Tryd.func19, Tryd.ntmps19
          go_wp2_with fail
          refine (kindOf_any l _).mono ?_
          rintro e w1 ⟨rfl, hb1⟩
          go_wp2_with fail
          go_ret
          exact ⟨rfl, hb1⟩
      · rw [show nameB l = false by unfold nameB; rw [t3]; simp]
        go_enter Tryd.func19, Tryd.ntmps19
        go_wp2_with fail
        go_ret
        exact ⟨rfl, Below.refl _ _⟩
  · rw [show nameB l = false by unfold nameB; rw [t1]; simp]
    go_enter Tryd.func19, Tryd.ntmps19
    go_wp2_with fail
    go_ret
    exact ⟨rfl, Below.refl _ _⟩
end Go.Proofs.YtcgpjihfligdbaaDoor
