/-
  Size of a term: so many terms are in it, and it.
-/
import Derived.Test.YtcgpjihfligdbaaW1
namespace Go.Proofs.Ytcgpjihfligdbaa
open Go.RowKit Tmx

set_option maxHeartbeats 400000 in
theorem size_any (m : Nat) : ∀ (f : F) (k n : Int) (q : Option Addr) (cap : Nat) (w : World), size f < m → size f < 4611686018427387904 → Sl w q f →
    Calls Try.prog 13 #[.agg #[.int .i64 k, .int .i64 n, .slice q (len f) cap]] w fun e w' => e = .returned (.int .i64 (size f + 1)) ∧ Below w.heap.size w w' := by
  induction m with
  | zero => intro f k n q cap w h; omega
  | succ m ih =>
    intro f k n q cap w hm hB hs
    have H := (show Hid _ from ih)
    clear ih
    have hls := len_le_size f
    go_enter Try.func13, Try.ntmps13
    go_wp2_with fail
    go_loopw [3, 9] (fun s i wr => ∃ j : Nat, j ≤ len f ∧ i = .int .i64 j ∧ s = .int .i64 ((size f : Int) + 1 - size (drop j f)) ∧ Below w.heap.size w wr) (fun _ i _ => len f - (intOf i).toNat)
    case atStart => exact ⟨0, Nat.zero_le _, rfl, by simp [drop]; omega, (Below.refl _ _).alloc (Nat.le_refl _) _⟩
    case round =>
      obtain ⟨j, hj, rfl, rfl, hb⟩ := hrel
      have hz := size_drop j f
      by_cases hlt : j < len f
      · obtain ⟨b, o, k', n', p, cap', x, y, l, r, rfl, e, hbl, c1, c2, c3, hsl⟩ := hs.at hb hlt
        have hd := drop_succ j f _ _ _ _ _ e
        have he : size (drop j f) = size l + size r + 1 := by rw [e, size]
        have E : Hid (size (drop j f) = size l + size r + 1 ∧ drop (j + 1) f = r) := ⟨he, hd⟩
        have hz' : size l + size r + 1 ≤ size f := by rw [← he]; exact hz
        have hz2 : size l + size r + 1 ≤ size (drop j f) ∧ size (drop j f) ≤ size l + size r + 1 := by rw [he]; omega
        clear e hd he
        go_wp2_with fail
        refine (H.out l k' n' p cap' _ (by omega) (by omega) (hsl.below ((Below.refl _ _).alloc (Nat.le_refl _) _))).mono ?_
        rintro e w1 ⟨rfl, hb1⟩
        go_wp2_with fail
        go_roundw
        case rel => exact ⟨j + 1, hlt, by go_num, by rw [E.out.1, E.out.2]; go_num, hb.trans (((Below.refl _ _).alloc hb.size _).trans (hb1.mono (by have := hb.size; simp; omega)))⟩
        case measure => simp [intOf]; omega
      · go_wp2
        go_ret
        have : j = len f := by omega
        subst this
        rw [drop_len]
        exact ⟨by simp [size], hb⟩
set_option maxHeartbeats 400000 in
theorem rsize_any (m : Nat) : ∀ (f : F) (k n : Int) (q : Option Addr) (cap : Nat) (w : World), size f < m → size f < 4611686018427387904 → Sl w q f →
    Calls Try.prog 14 #[.agg #[.int .i64 k, .int .i64 n, .slice q (len f) cap]] w fun e w' => e = .returned (.int .i64 (size f + 1)) ∧ Below w.heap.size w w' := by
  induction m with
  | zero => intro f k n q cap w h; omega
  | succ m ih =>
    intro f k n q cap w hm hB hs
    have H := (show Hid _ from ih)
    clear ih
    have hls := len_le_size f
    go_enter Try.func14, Try.ntmps14
    go_wp2_with fail
    go_loopw [3, 9] (fun s i wr => ∃ j : Nat, j ≤ len f ∧ i = .int .i64 j ∧ s = .int .i64 ((size f : Int) + 1 - size (drop j f)) ∧ Below w.heap.size w wr) (fun _ i _ => len f - (intOf i).toNat)
    case atStart => exact ⟨0, Nat.zero_le _, rfl, by simp [drop]; omega, (Below.refl _ _).alloc (Nat.le_refl _) _⟩
    case round =>
      obtain ⟨j, hj, rfl, rfl, hb⟩ := hrel
      have hz := size_drop j f
      by_cases hlt : j < len f
      · obtain ⟨b, o, k', n', p, cap', x, y, l, r, rfl, e, hbl, c1, c2, c3, hsl⟩ := hs.at hb hlt
        have hd := drop_succ j f _ _ _ _ _ e
        have he : size (drop j f) = size l + size r + 1 := by rw [e, size]
        have E : Hid (size (drop j f) = size l + size r + 1 ∧ drop (j + 1) f = r) := ⟨he, hd⟩
        have hz' : size l + size r + 1 ≤ size f := by rw [← he]; exact hz
        have hz2 : size l + size r + 1 ≤ size (drop j f) ∧ size (drop j f) ≤ size l + size r + 1 := by rw [he]; omega
        clear e hd he
        go_wp2_with fail
        refine (H.out l k' n' p cap' _ (by omega) (by omega) (hsl.below ((Below.refl _ _).alloc (Nat.le_refl _) _))).mono ?_
        rintro e w1 ⟨rfl, hb1⟩
        go_wp2_with fail
        go_roundw
        case rel => exact ⟨j + 1, hlt, by go_num, by rw [E.out.1, E.out.2]; go_num, hb.trans (((Below.refl _ _).alloc hb.size _).trans (hb1.mono (by have := hb.size; simp; omega)))⟩
        case measure => simp [intOf]; omega
      · go_wp2
        go_ret
        have : j = len f := by omega
        subst this
        rw [drop_len]
        exact ⟨by simp [size], hb⟩
end Go.Proofs.Ytcgpjihfligdbaa
