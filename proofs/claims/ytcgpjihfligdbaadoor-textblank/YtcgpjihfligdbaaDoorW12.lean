/-
  The document's reader: a word is taken.
-/
import Derived.Test.YtcgpjihfligdbaaDoorW11
namespace Go.Proofs.YtcgpjihfligdbaaDoor
open Go.RowKit Tmx

theorem peek_len (l : List UInt8) : (peekW l).length ≤ (skip l).length := by
  unfold peekW
  rw [List.length_take]
  omega
theorem rest_eq (l : List UInt8) : (skip l).drop (peekW l).length = restW l := by
  unfold peekW restW
  rw [List.length_take, Nat.min_eq_left (plen_le _)]
set_option maxHeartbeats 400000 in
theorem w_any (w : World) (r : Nat) (l : List UInt8) (D : Value) (E : Int) (h : Rd w r l D E) (hl : l.length ≤ 4611686018427387904) :
    Calls Tryd.prog 22 #[.pointer (some ⟨r, 0, none⟩)] w fun x w' => x = .returned (.string ⟨(peekW l).toArray⟩) ∧ Rd w' r (restW l) D (wE l E) ∧ Kept r w w' := by
  have hpl := peek_len l
  have hsl := skip_len l
  have hex : ({ data := (skip l).toArray } : ByteArray).extract (peekW l).length (skip l).length = { data := (restW l).toArray } := by
    rw [ByteArray.extract_mk, rest_eq, List.take_of_length_le (by rw [← rest_eq, List.length_drop]; omega)]
  go_enter Tryd.func22, Tryd.ntmps22
  go_wp2_with fail
  refine (peek_any w r l D E h hl).mono ?_
  rintro e w1 ⟨rfl, hr, hk⟩
  obtain ⟨c0, c1, c2, f0, f1, f2⟩ := hr.facts
  by_cases he : peekW l = []
  · have HE : Hid (wE l E = failE E 8 ∧ peekW l = []) := by unfold wE; rw [if_pos he]; exact ⟨rfl, he⟩
    have he2 : (peekW l).length = 0 := by rw [he]; rfl
    rw [he2] at hex
    clear he2
    rw [he]
    clear he
    go_wp2_with fail
    refine (fail_any w1 r (skip l) D E 8 hr).mono ?_
    rintro e w2 ⟨rfl, hr2, hk2⟩
    clear c0 c1 c2 f0 f1 f2
    obtain ⟨c0, c1, c2, f0, f1, f2⟩ := hr2.facts
    go_wp2_with fail
    go_ret
    refine ⟨by rw [HE.out.2]; rfl, ?_, hk.trans (hk2.trans (Kept.set _ ⟨r, 0, none⟩ _))⟩
    rw [HE.out.1]
    exact hr2.setS _
  · have HE : Hid (wE l E = E) := by unfold wE; rw [if_neg he]; rfl
    have t : (peekW l == []) = false := by simpa using he
    clear he
    go_wp2_with fail
    go_ret
    refine ⟨rfl, ?_, hk.trans (Kept.set _ ⟨r, 0, none⟩ _)⟩
    rw [HE.out]
    exact hr.setS _
end Go.Proofs.YtcgpjihfligdbaaDoor
