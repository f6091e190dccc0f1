/-
  Size of a term: so many terms are in it, and it.
-/
/-
  The document's Wrong: what is wrong with a term.
-/
import Derived.Test.YtcgpjihfligdbaaDoorW1
import Derived.Test.YtcgpjihfligdbaaDoorW5
import Derived.Test.YtcgpjihfligdbaaDoorPlain3m
namespace Go.Proofs.YtcgpjihfligdbaaDoor
open Go.RowKit Tmx

set_option maxHeartbeats 400000 in
theorem size_any (m : Nat) : ∀ (f : F) (k n : Int) (q : Option Addr) (cap : Nat) (w : World), size f < m → size f < 4611686018427387904 → Sl w q f →
    Calls Tryd.prog 16 #[.agg #[.int .i64 k, .int .i64 n, .slice q (len f) cap]] w fun e w' => e = .returned (.int .i64 (size f + 1)) ∧ Below w.heap.size w w' := by
  induction m with
  | zero => intro f k n q cap w h; omega
  | succ m ih =>
    intro f k n q cap w hm hB hs
    have H := (show Hid _ from ih)
    clear ih
    have hls := len_le_size f
    go_enter Tryd.func16, Tryd.ntmps16
    go_wp2_with fail
    go_loopw [3, 9] (fun s i wr => ∃ j : Nat, j ≤ len f ∧ i = .int .i64 j ∧ s = .int .i64 ((size f : Int) + 1 - size (drop j f)) ∧ Below w.heap.size w wr) (fun _ i _ => len f - (intOf i).toNat)
    case atStart => exact ⟨0, Nat.zero_le _, rfl, by simp [drop]; omega, (Below.refl _ _).alloc (Nat.le_refl _) _⟩
    case round =>
      obtain ⟨j, hj, rfl, rfl, hb⟩ := hrel
      have hz := size_drop j f
      by_cases hlt : j < len f
      · obtain ⟨b, o, k', n', p, cap', x, y, l, r, rfl, e, hbl, c1, c2, c3, hsl⟩ := hs.at hb hlt
        have hd := drop_succ j f _ _ _ _ _ e
        have he : size (drop j f) = size l + size r + 1 := by rw [e, size]
        have E : Hid (size (drop j f) = size l + size r + 1 ∧ drop (j + 1) f = r) := ⟨he, hd⟩
        have hz' : size l + size r + 1 ≤ size f := by rw [← he]; exact hz
        have hz2 : size l + size r + 1 ≤ size (drop j f) ∧ size (drop j f) ≤ size l + size r + 1 := by rw [he]; omega
        clear e hd he
        go_wp2_with fail
        refine (H.out l k' n' p cap' _ (by omega) (by omega) (hsl.below ((Below.refl _ _).alloc (Nat.le_refl _) _))).mono ?_
        rintro e w1 ⟨rfl, hb1⟩
        go_wp2_with fail
        go_roundw
        case rel => exact ⟨j + 1, hlt, by go_num, by rw [E.out.1, E.out.2]; go_num, hb.trans (((Below.refl _ _).alloc hb.size _).trans (hb1.mono (by have := hb.size; simp; omega)))⟩
        case measure => simp [intOf]; omega
      · go_wp2
        go_ret
        have : j = len f := by omega
        subst this
        rw [drop_len]
        exact ⟨by simp [size], hb⟩
set_option maxHeartbeats 400000 in
theorem rsize_any (m : Nat) : ∀ (f : F) (k n : Int) (q : Option Addr) (cap : Nat) (w : World), size f < m → size f < 4611686018427387904 → Sl w q f →
    Calls Tryd.prog 40 #[.agg #[.int .i64 k, .int .i64 n, .slice q (len f) cap]] w fun e w' => e = .returned (.int .i64 (size f + 1)) ∧ Below w.heap.size w w' := by
  induction m with
  | zero => intro f k n q cap w h; omega
  | succ m ih =>
    intro f k n q cap w hm hB hs
    have H := (show Hid _ from ih)
    clear ih
    have hls := len_le_size f
    go_enter Tryd.func40, Tryd.ntmps40
    go_wp2_with fail
    go_loopw [3, 9] (fun s i wr => ∃ j : Nat, j ≤ len f ∧ i = .int .i64 j ∧ s = .int .i64 ((size f : Int) + 1 - size (drop j f)) ∧ Below w.heap.size w wr) (fun _ i _ => len f - (intOf i).toNat)
    case atStart => exact ⟨0, Nat.zero_le _, rfl, by simp [drop]; omega, (Below.refl _ _).alloc (Nat.le_refl _) _⟩
    case round =>
      obtain ⟨j, hj, rfl, rfl, hb⟩ := hrel
      have hz := size_drop j f
      by_cases hlt : j < len f
      · obtain ⟨b, o, k', n', p, cap', x, y, l, r, rfl, e, hbl, c1, c2, c3, hsl⟩ := hs.at hb hlt
        have hd := drop_succ j f _ _ _ _ _ e
        have he : size (drop j f) = size l + size r + 1 := by rw [e, size]
        have E : Hid (size (drop j f) = size l + size r + 1 ∧ drop (j + 1) f = r) := ⟨he, hd⟩
        have hz' : size l + size r + 1 ≤ size f := by rw [← he]; exact hz
        have hz2 : size l + size r + 1 ≤ size (drop j f) ∧ size (drop j f) ≤ size l + size r + 1 := by rw [he]; omega
        clear e hd he
        go_wp2_with fail
        refine (H.out l k' n' p cap' _ (by omega) (by omega) (hsl.below ((Below.refl _ _).alloc (Nat.le_refl _) _))).mono ?_
        rintro e w1 ⟨rfl, hb1⟩
        go_wp2_with fail
        go_roundw
        case rel => exact ⟨j + 1, hlt, by go_num, by rw [E.out.1, E.out.2]; go_num, hb.trans (((Below.refl _ _).alloc hb.size _).trans (hb1.mono (by have := hb.size; simp; omega)))⟩
        case measure => simp [intOf]; omega
      · go_wp2
        go_ret
        have : j = len f := by omega
        subst this
        rw [drop_len]
        exact ⟨by simp [size], hb⟩
end Go.Proofs.YtcgpjihfligdbaaDoor

namespace Go.Proofs.YtcgpjihfligdbaaDoor
open Go.RowKit Tmx

set_option maxHeartbeats 1000000 in
theorem rwrong_any (f : F) (k n : Int) (q : Option Addr) (cap : Nat) (bound decls : Int) (w : World) (h0 : 0 ≤ bound) (h1 : bound ≤ 4611686018427387000) (hs : Sl w q f) :
    Calls Tryd.prog 11 #[.agg #[.int .i64 k, .int .i64 n, .slice q (len f) cap], .int .i64 bound, .int .i64 decls] w fun e w' => e = .returned (.int .i64 (wrongT decls bound k n f)) ∧ Below w.heap.size w w' := by
  go_enter Tryd.func11, Tryd.ntmps11
  go_wp2_with fail
  refine (look_any (size f + 1) f k n q cap bound decls 1 _ (by omega) h0 (by omega) (by omega) (by omega) (hs.below ((Below.refl _ _).alloc (Nat.le_refl _) _))).mono ?_
  rintro e w1 ⟨rfl, hb1⟩
  obtain ⟨c0, c1, c2, hb, hz⟩ := box3 hb1
  clear hb1
  cases tt : (lookT decls bound 1 k n f != 0)
  · have e0 : lookT decls bound 1 k n f = 0 := by simpa using tt
    have hsm := look_small e0
    have w0 : wrongT decls bound k n f = if 60 < size f + 1 then 4 else 0 := by unfold wrongT; rw [e0]; simp
    rw [e0]
    clear e0 tt
    by_cases hm : 60 < size f + 1
    · have W0 : Hid (wrongT decls bound k n f = 4) := by rw [w0, if_pos hm]; rfl
      clear w0
      go_wp2_with fail
      refine (rsize_any (size f + 1) f k n q cap _ (by omega) hsm (hs.below hb)).mono ?_
      rintro e w2 ⟨rfl, hb2⟩
      go_wp2_with fail
      go_ret
      exact ⟨by rw [W0.out]; rfl, hb.trans (hb2.mono (by omega))⟩
    · have W0 : Hid (wrongT decls bound k n f = 0) := by rw [w0, if_neg hm]; rfl
      clear w0
      go_wp2_with fail
      refine (rsize_any (size f + 1) f k n q cap _ (by omega) hsm (hs.below hb)).mono ?_
      rintro e w2 ⟨rfl, hb2⟩
      go_wp2_with fail
      go_ret
      exact ⟨by rw [W0.out]; rfl, hb.trans (hb2.mono (by omega))⟩
  · have w0 : wrongT decls bound k n f = lookT decls bound 1 k n f := by unfold wrongT; rw [if_pos (by simpa using tt)]
    have W0 : Hid (wrongT decls bound k n f = lookT decls bound 1 k n f) := w0
    clear w0
    go_wp2_with fail
    go_ret
    exact ⟨by rw [W0.out]; rfl, hb⟩
end Go.Proofs.YtcgpjihfligdbaaDoor
