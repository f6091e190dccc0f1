/-
  The document's reader: the next word.
-/
import Derived.Test.YtcgpjihfligdbaaDoorW4
import Derived.Test.YtcgpjihfligdbaaDoorMem3
import Derived.Deep.LoopGhost
namespace Go.Proofs.YtcgpjihfligdbaaDoor
open Go.RowKit Tmx

set_option maxHeartbeats 400000 in
theorem fail_any (w : World) (r : Nat) (l : List UInt8) (D : Value) (E e : Int) (h : Rd w r l D E) :
    Calls Tryd.prog 50 #[.pointer (some ⟨r, 0, none⟩), .int .i64 e] w fun x w' => x = .returned (.tuple #[]) ∧ Rd w' r l D (failE E e) ∧ Kept r w w' := by
  obtain ⟨c0, c1, c2, f0, f1, f2⟩ := h.facts
  by_cases hE : E = 0
  · subst hE
    go_enter Tryd.func50, Tryd.ntmps50
    go_wp2
    go_end0
    exact ⟨rfl, h.setE e, Kept.set _ ⟨r, 2, none⟩ _⟩
  · have t : (E == 0) = false := by simpa using hE
    rw [show failE E e = E by unfold failE; rw [if_neg hE]]
    go_enter Tryd.func50, Tryd.ntmps50
    go_wp2
    go_end0
    exact ⟨rfl, h, Kept.refl _ _⟩

set_option maxHeartbeats 1000000 in
theorem peek_any (w : World) (r : Nat) (l : List UInt8) (D : Value) (E : Int) (h : Rd w r l D E) (hl : l.length ≤ 4611686018427387904) :
    Calls Tryd.prog 21 #[.pointer (some ⟨r, 0, none⟩)] w fun x w' => x = .returned (.string ⟨(peekW l).toArray⟩) ∧ Rd w' r (skip l) D E ∧ Kept r w w' := by
  go_enter Tryd.func21, Tryd.ntmps21
  go_wp2_with fail
  go_loopg [] l.length (fun g wr => ∃ l', l'.length = g ∧ skip l' = skip l ∧ Rd wr r l' D E ∧ Kept r w wr)
  case atStart => exact ⟨l, rfl, rfl, h, Kept.refl _ _⟩
  case round =>
    obtain ⟨l', rfl, hsk, hr, hk⟩ := hrel
    obtain ⟨c0, c1, c2, f0, f1, f2⟩ := hr.facts
    by_cases hx : ∃ c l'', l' = c :: l'' ∧ (c = 32 ∨ c = 10)
    · obtain ⟨c, l'', rfl, hc⟩ := hx
      have e0 : skip (c :: l'') = skip l'' := by rw [skip, if_pos hc]
      have HS : Hid (skip l'' = skip l) := by rw [e0] at hsk; exact hsk
      clear hsk e0
      have hex : ({ data := (c :: l'').toArray } : ByteArray).extract 1 (l''.length + 1) = { data := l''.toArray } := by rw [ByteArray.extract_mk]; simp
      have hby : ({ data := (c :: l'').toArray } : ByteArray)[0]'(by simp [ByteArray.size]) = c := rfl
      rcases hc with rfl | rfl
      all_goals
        go_wp2_with fail
        go_roundg l''.length
        case measure => simp
        case rel => exact ⟨l'', rfl, HS.out, hr.setS l'', hk.trans (Kept.set _ ⟨r, 0, none⟩ _)⟩
    · have hm : skip l = l' := by
        rw [← hsk]
        cases l' with
        | nil => rfl
        | cons c l'' => exact skip_self c l'' fun h => hx ⟨c, l'', rfl, h⟩
      have HM : Hid (skip l = l' ∧ peekW l = l'.take (plen l')) := ⟨hm, by unfold peekW; rw [hm]⟩
      have hlen := skip_len l
      rw [hm] at hlen
      clear hsk hm
      cases l' with
      | nil =>
        go_wp2_with fail
        go_loopg [3] 0 (fun g k wr' => g = 0 ∧ k = .int .i64 0 ∧ wr' = wr)
        case atStart => exact ⟨rfl, rfl, rfl⟩
        case round =>
          obtain ⟨rfl, rfl, rfl⟩ := hrel
          have hpw : peekW l = [] := by rw [HM.out.2]; rfl
          have HP : Hid (peekW l = []) := hpw
          clear hpw
          have hex : ({ data := ([] : List UInt8).toArray } : ByteArray).extract 0 0 = { data := ([] : List UInt8).toArray } := by rw [ByteArray.extract_mk]; simp
          go_wp2_with fail
          go_ret
          exact ⟨by rw [HP.out]; rfl, by rw [HM.out.1]; exact hr, hk⟩
      | cons c l'' =>
        have hc : ¬ (c = 32 ∨ c = 10) := fun h => hx ⟨c, l'', rfl, h⟩
        have hb1 : ((c.toNat : Int) == 32) = false := by
          rw [beq_eq_false_iff_ne]
          intro h
          exact hc (.inl (UInt8.toNat_inj.1 (by show c.toNat = 32; omega)))
        have hb2 : ((c.toNat : Int) == 10) = false := by
          rw [beq_eq_false_iff_ne]
          intro h
          exact hc (.inr (UInt8.toNat_inj.1 (by show c.toNat = 10; omega)))
        have hby : ({ data := (c :: l'').toArray } : ByteArray)[0]'(by simp [ByteArray.size]) = c := rfl
        have hml : 0 < (c :: l'').length := by simp
        go_wp2_with fail
        clear hby hb1 hb2 hc hx
        generalize c :: l'' = m at *
        go_loopg [3] m.length (fun g k wr' => ∃ j : Nat, j ≤ m.length ∧ g = m.length - j ∧ k = .int .i64 j ∧ Hid (wlen (m.drop j) + j = wlen m) ∧ wr' = wr)
        case atStart => exact ⟨0, Nat.zero_le _, by simp, rfl, rfl, rfl⟩
        case round =>
          obtain ⟨j, hj, rfl, rfl, hw, rfl⟩ := hrel
          by_cases hz : j < m.length ∧ 0 < wlen (m.drop j)
          · obtain ⟨hlt, hpos⟩ := hz
            have hd : m.drop j = m[j] :: m.drop (j + 1) := List.drop_eq_getElem_cons hlt
            obtain ⟨d, hdd⟩ : ∃ d, m[j] = d := ⟨_, rfl⟩
            rw [hdd] at hd
            have hdc : ¬ (d = 32 ∨ d = 10 ∨ d = 40 ∨ d = 41) := by
              intro h
              rw [hd, (wlen_zero d _).2 h] at hpos
              omega
            have HW : Hid (wlen (m.drop (j + 1)) + (j + 1) = wlen m) := by
              have h0 := hw.out
              rw [hd, wlen_succ d _ hdc] at h0
              show _ = _
              omega
            clear hw hd hpos
            have hby : ({ data := m.toArray } : ByteArray)[j]'(by simpa [ByteArray.size] using hlt) = d := hdd
            have b1 : ((d.toNat : Int) != 32) = true := byte_ne d 32 fun h => hdc (.inl (UInt8.toNat_inj.1 h))
            have b2 : ((d.toNat : Int) != 10) = true := byte_ne d 10 fun h => hdc (.inr (.inl (UInt8.toNat_inj.1 h)))
            have b3 : ((d.toNat : Int) != 40) = true := byte_ne d 40 fun h => hdc (.inr (.inr (.inl (UInt8.toNat_inj.1 h))))
            have b4 : ((d.toNat : Int) != 41) = true := byte_ne d 41 fun h => hdc (.inr (.inr (.inr (UInt8.toNat_inj.1 h))))
            clear hdc hdd
            go_wp2_with fail
            go_roundg (m.length - (j + 1))
            case measure => omega
            case rel => exact ⟨j + 1, hlt, rfl, by go_num, HW, rfl⟩
          · have hj2 : j = wlen m := by
              have h0 := hw.out
              by_cases hlt : j < m.length
              · have : wlen (m.drop j) = 0 := by omega
                omega
              · rw [List.drop_of_length_le (by omega)] at h0
                rw [← h0]
                simp [wlen]
            have hend : plen m = if j = 0 then 1 else j := by
              unfold plen
              rw [← hj2]
              by_cases h0 : j = 0 <;> simp [h0, hml]
            have HPE : Hid (plen m = if j = 0 then 1 else j) := hend
            have HJ : Hid (j = wlen m) := hj2
            clear hend hj2
            by_cases hlt : j < m.length
            · have hd : m.drop j = m[j] :: m.drop (j + 1) := List.drop_eq_getElem_cons hlt
              obtain ⟨d, hdd⟩ : ∃ d, m[j] = d := ⟨_, rfl⟩
              rw [hdd] at hd
              have hdc : d = 32 ∨ d = 10 ∨ d = 40 ∨ d = 41 := by
                have h0 : wlen (m.drop j) = 0 := by omega
                rw [hd] at h0
                exact (wlen_zero d _).1 h0
              have hby : ({ data := m.toArray } : ByteArray)[j]'(by simpa [ByteArray.size] using hlt) = d := hdd
              clear hd hdd hz hw
              cases t0 : ((j : Int) == 0)
              · have hpl : plen m = j := by rw [HPE.out, if_neg (by have : (j : Int) ≠ 0 := by simpa using t0
                                                                    omega)]
                have hex : ({ data := m.toArray } : ByteArray).extract 0 j = { data := (m.take (plen m)).toArray } := by rw [ByteArray.extract_mk, hpl]; simp
                clear hpl
                rcases hdc with rfl | rfl | rfl | rfl
                all_goals
                  go_wp2_with fail
                  go_ret
                  exact ⟨by rw [HM.out.2]; rfl, by rw [HM.out.1]; exact hr, hk⟩
              · have hj0 : j = 0 := by have : (j : Int) = 0 := by simpa using t0
                                       omega
                subst hj0
                have hpl : plen m = 1 := by rw [HPE.out, if_pos rfl]
                have hex : ({ data := m.toArray } : ByteArray).extract 0 1 = { data := (m.take (plen m)).toArray } := by rw [ByteArray.extract_mk, hpl]; simp
                clear hpl t0
                rcases hdc with rfl | rfl | rfl | rfl
                all_goals
                  go_wp2_with fail
                  go_ret
                  exact ⟨by rw [HM.out.2]; rfl, by rw [HM.out.1]; exact hr, hk⟩
            · have hj3 : j = m.length := by omega
              have t0 : ((j : Int) == 0) = false := by rw [beq_eq_false_iff_ne]; omega
              have hpl : plen m = j := by rw [HPE.out, if_neg (by omega)]
              have hex : ({ data := m.toArray } : ByteArray).extract 0 j = { data := (m.take (plen m)).toArray } := by rw [ByteArray.extract_mk, hpl]; simp
              have hj4 : m.length ≤ j := by omega
              clear hpl hj3 hz hw
              go_wp2_with fail
              go_ret
              exact ⟨by rw [HM.out.2]; rfl, by rw [HM.out.1]; exact hr, hk⟩
end Go.Proofs.YtcgpjihfligdbaaDoor
