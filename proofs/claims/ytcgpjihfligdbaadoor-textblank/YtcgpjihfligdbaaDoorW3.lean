/-
  Same: whether two terms are the same, field by field.
-/
import Derived.Test.YtcgpjihfligdbaaDoorW1
import Derived.Deep.RegionHeld3
namespace Go.Proofs.YtcgpjihfligdbaaDoor
open Go.RowKit Tmx

theorem sameT_kind {k n k2 n2 : Int} {f g : F} (h : (k != k2) = true) : sameT k n f k2 n2 g = false := by
  have : k ≠ k2 := by simpa using h
  simp [sameT, this]
theorem sameT_num {k n k2 n2 : Int} {f g : F} (h : (n != n2) = true) : sameT k n f k2 n2 g = false := by
  have : n ≠ n2 := by simpa using h
  simp [sameT, this]
theorem sameT_len {k n k2 n2 : Int} {f g : F} (h : ((len f : Int) != len g) = true) : sameT k n f k2 n2 g = false := by
  have h1 : (len f : Int) ≠ len g := by simpa using h
  have : same f g = false := by
    cases e : same f g
    · rfl
    · have := same_len f g e; omega
  simp [sameT, this]
theorem sameT_of {k n k2 n2 : Int} {f g : F} (h : (k != k2) = false) (h' : (n != n2) = false) : sameT k n f k2 n2 g = sameFrom 0 f g := by
  have e1 : k = k2 := by simpa using h
  have e2 : n = n2 := by simpa using h'
  simp [sameT, e1, e2, sameFrom, drop]
theorem sameFrom_len {f g : F} (h : len f = len g) : sameFrom (len f) f g = true := by
  unfold sameFrom
  rw [drop_len, h, drop_len, same]
theorem sameFrom_yes {j : Nat} {f g : F} {x y x' y' : Nat} {k n k' n' : Int} {l r l' r' : F} {v : Bool} (h : drop j f = .node x y (k, n) l r) (h' : drop j g = .node x' y' (k', n') l' r') (hv : sameFrom j f g = v) (hs : (!sameT k n l k' n' l') = false) : sameFrom (j + 1) f g = v := by
  rw [same_step j f g h h'] at hv
  have : sameT k n l k' n' l' = true := by simpa using hs
  unfold sameT at this
  rw [this, Bool.true_and] at hv
  exact hv
theorem sameFrom_no {j : Nat} {f g : F} {x y x' y' : Nat} {k n k' n' : Int} {l r l' r' : F} {v : Bool} (h : drop j f = .node x y (k, n) l r) (h' : drop j g = .node x' y' (k', n') l' r') (hv : sameFrom j f g = v) (hs : (!sameT k n l k' n' l') = true) : v = false := by
  rw [same_step j f g h h'] at hv
  have : sameT k n l k' n' l' = false := by simpa using hs
  unfold sameT at this
  rw [this, Bool.false_and] at hv
  exact hv.symm

set_option maxHeartbeats 1000000 in
theorem tsame_any (m : Nat) : ∀ (f g : F) (k n k2 n2 : Int) (q q2 : Option Addr) (cap cap2 : Nat) (w : World), size f < m → size f < 4611686018427387904 → size g < 4611686018427387904 → Sl w q f → Sl w q2 g →
    Calls Tryd.prog 38 #[.agg #[.int .i64 k, .int .i64 n, .slice q (len f) cap], .agg #[.int .i64 k2, .int .i64 n2, .slice q2 (len g) cap2]] w fun e w' => e = .returned (.bool (sameT k n f k2 n2 g)) ∧ Below w.heap.size w w' := by
  induction m with
  | zero => intro f g k n k2 n2 q q2 cap cap2 w h; omega
  | succ m ih =>
    intro f g k n k2 n2 q q2 cap cap2 w hm hB hB2 hs hs2
    have H := (show Hid _ from ih)
    clear ih
    have hl1 := len_le_size f
    have hl2 := len_le_size g
    have BB : Below w.heap.size w ((w.alloc (.cells #[.int .i64 k, .int .i64 n, .slice q (len f) cap] 24)).alloc (.cells #[.int .i64 k2, .int .i64 n2, .slice q2 (len g) cap2] 24)) :=
      ((Below.refl _ _).alloc (Nat.le_refl _) _).alloc (by simp) _
    cases t1 : (k != k2)
    · cases t2 : (n != n2)
      · cases t3 : ((len f : Int) != len g)
        · have t4 : len f = len g := by have : (len f : Int) = len g := by simpa using t3
                                        omega
          have T4 : Hid (len f = len g) := t4
          have E0 : Hid (sameT k n f k2 n2 g = sameFrom 0 f g) := sameT_of t1 t2
          generalize sameT k n f k2 n2 g = v at E0 ⊢
          have t5 : len f ≤ len g ∧ len g ≤ len f := by omega
          clear t4
          go_enter Tryd.func38, Tryd.ntmps38
          go_wp2_with fail
          go_loopw [5, 30] (fun i0 i wr => ∃ j : Nat, j ≤ len f ∧ i = .int .i64 j ∧ sameFrom j f g = v ∧ Below w.heap.size w wr ∧ wr.cell? ⟨w.heap.size, 2, none⟩ = some (.slice q (len f) cap) ∧ wr.cell? ⟨w.heap.size + 1, 2, none⟩ = some (.slice q2 (len g) cap2)) (fun _ i _ => len f - (intOf i).toNat)
          case atStart => exact ⟨0, Nat.zero_le _, rfl, E0.out.symm, BB, by simp, by simp⟩
          case round =>
            obtain ⟨j, hj, rfl, hv, hb, cA, cB⟩ := hrel
            by_cases hlt : j < len f
            · obtain ⟨b, o, k', n', p, cap', x, y, l, r, rfl, e, hbl, c1, c2, c3, hsl⟩ := hs.at hb hlt
              obtain ⟨b2, o2, k2', n2', p2, cap2', x2, y2, l2, r2, rfl, e2, hbl2, d1, d2, d3, hsl2⟩ := hs2.at hb (show j < len g by omega)
              have hlt2 : j < len g := by omega
              have hz := size_drop j f
              rw [e, size] at hz
              have hz2 := size_drop j g
              rw [e2, size] at hz2
              have HV : Hid (sameFrom j f g = v) := hv
              have E1 : Hid (drop j f = .node x y (k', n') l r) := e
              have E2 : Hid (drop j g = .node x2 y2 (k2', n2') l2 r2) := e2
              clear e e2 hv
              have z1 : w.heap.size < wr.heap.size := World.block_lt_of_cell? wr ⟨w.heap.size, 2, none⟩ cA
              have z2 : w.heap.size + 1 < wr.heap.size := World.block_lt_of_cell? wr ⟨w.heap.size + 1, 2, none⟩ cB
              have z3 : b < wr.heap.size := by omega
              have z4 : b2 < wr.heap.size := by omega
              go_wp2_with fail
              go_region_held3 (fun w' => w'.cell? ⟨w.heap.size, 2, none⟩ = some (.slice (some ⟨b, o, none⟩) (len f) cap) ∧ w'.cell? ⟨w.heap.size + 1, 2, none⟩ = some (.slice (some ⟨b2, o2, none⟩) (len g) cap2) ∧
                  w'.cell? ⟨b, o + j * 3, none⟩ = some (.int .i64 k') ∧ w'.cell? ⟨b, o + j * 3 + 1, none⟩ = some (.int .i64 n') ∧ w'.cell? ⟨b, o + j * 3 + 2, none⟩ = some (.slice p (len l) cap') ∧
                  w'.cell? ⟨b2, o2 + j * 3, none⟩ = some (.int .i64 k2') ∧ w'.cell? ⟨b2, o2 + j * 3 + 1, none⟩ = some (.int .i64 n2') ∧ w'.cell? ⟨b2, o2 + j * 3 + 2, none⟩ = some (.slice p2 (len l2) cap2')) (go_keep)
                (first | (go_at_call 38; refine (H.out l l2 k' n' k2' n2' p p2 cap' cap2' wr.drew (by omega) (by omega) (by omega) hsl.drew hsl2.drew).mono ?_; rintro e w1 ⟨rfl, hb1⟩; obtain ⟨hc, _⟩ := bcell (undrew hb1)))
              have hb2 : Below w.heap.size w w1 := hb.trans ((undrew hb1).mono (by omega))
              have hcA : w1.cell? ⟨w.heap.size, 2, none⟩ = some (.slice (some ⟨b, o, none⟩) (len f) cap) := by rw [hc _ _ z1]; exact cA
              have hcB : w1.cell? ⟨w.heap.size + 1, 2, none⟩ = some (.slice (some ⟨b2, o2, none⟩) (len g) cap2) := by rw [hc _ _ z2]; exact cB
              clear hc
              cases tt : (!sameT k' n' l k2' n2' l2)
              · have HY : Hid (sameFrom (j + 1) f g = v) := sameFrom_yes E1.out E2.out HV.out tt
                go_wp2_with fail
                go_roundw
                case rel => exact ⟨j + 1, hlt, by go_num, HY.out, hb2, hcA, hcB⟩
                case measure => simp [intOf]; omega
              · have HN : Hid (v = false) := sameFrom_no E1.out E2.out HV.out tt
                go_wp2_with fail
                go_ret
                obtain rfl := HN.out
                exact ⟨rfl, hb2⟩
            · go_wp2
              go_ret
              obtain rfl : j = len f := by omega
              obtain rfl : v = true := by rw [← hv, sameFrom_len T4.out]
              exact ⟨rfl, hb⟩
        · have E := sameT_len (k := k) (n := n) (k2 := k2) (n2 := n2) t3
          rw [E]
          clear E
          go_enter Tryd.func38, Tryd.ntmps38
          go_wp2
          go_ret
          exact ⟨rfl, BB⟩
      · rw [sameT_num t2]
        go_enter Tryd.func38, Tryd.ntmps38
        go_wp2
        go_ret
        exact ⟨rfl, BB⟩
    · rw [sameT_kind t1]
      go_enter Tryd.func38, Tryd.ntmps38
      go_wp2
      go_ret
      exact ⟨rfl, BB⟩
set_option maxHeartbeats 1000000 in
theorem rsame_any (m : Nat) : ∀ (f g : F) (k n k2 n2 : Int) (q q2 : Option Addr) (cap cap2 : Nat) (w : World), size f < m → size f < 4611686018427387904 → size g < 4611686018427387904 → Sl w q f → Sl w q2 g →
    Calls Tryd.prog 14 #[.agg #[.int .i64 k, .int .i64 n, .slice q (len f) cap], .agg #[.int .i64 k2, .int .i64 n2, .slice q2 (len g) cap2]] w fun e w' => e = .returned (.bool (sameT k n f k2 n2 g)) ∧ Below w.heap.size w w' := by
  induction m with
  | zero => intro f g k n k2 n2 q q2 cap cap2 w h; omega
  | succ m ih =>
    intro f g k n k2 n2 q q2 cap cap2 w hm hB hB2 hs hs2
    have H := (show Hid _ from ih)
    clear ih
    have hl1 := len_le_size f
    have hl2 := len_le_size g
    have BB : Below w.heap.size w ((w.alloc (.cells #[.int .i64 k, .int .i64 n, .slice q (len f) cap] 24)).alloc (.cells #[.int .i64 k2, .int .i64 n2, .slice q2 (len g) cap2] 24)) :=
      ((Below.refl _ _).alloc (Nat.le_refl _) _).alloc (by simp) _
    cases t1 : (k != k2)
    · cases t2 : (n != n2)
      · cases t3 : ((len f : Int) != len g)
        · have t4 : len f = len g := by have : (len f : Int) = len g := by simpa using t3
                                        omega
          have T4 : Hid (len f = len g) := t4
          have E0 : Hid (sameT k n f k2 n2 g = sameFrom 0 f g) := sameT_of t1 t2
          generalize sameT k n f k2 n2 g = v at E0 ⊢
          have t5 : len f ≤ len g ∧ len g ≤ len f := by omega
          clear t4
          go_enter Tryd.func14, Tryd.ntmps14
          go_wp2_with fail
          go_loopw [5, 30] (fun i0 i wr => ∃ j : Nat, j ≤ len f ∧ i = .int .i64 j ∧ sameFrom j f g = v ∧ Below w.heap.size w wr ∧ wr.cell? ⟨w.heap.size, 2, none⟩ = some (.slice q (len f) cap) ∧ wr.cell? ⟨w.heap.size + 1, 2, none⟩ = some (.slice q2 (len g) cap2)) (fun _ i _ => len f - (intOf i).toNat)
          case atStart => exact ⟨0, Nat.zero_le _, rfl, E0.out.symm, BB, by simp, by simp⟩
          case round =>
            obtain ⟨j, hj, rfl, hv, hb, cA, cB⟩ := hrel
            by_cases hlt : j < len f
            · obtain ⟨b, o, k', n', p, cap', x, y, l, r, rfl, e, hbl, c1, c2, c3, hsl⟩ := hs.at hb hlt
              obtain ⟨b2, o2, k2', n2', p2, cap2', x2, y2, l2, r2, rfl, e2, hbl2, d1, d2, d3, hsl2⟩ := hs2.at hb (show j < len g by omega)
              have hlt2 : j < len g := by omega
              have hz := size_drop j f
              rw [e, size] at hz
              have hz2 := size_drop j g
              rw [e2, size] at hz2
              have HV : Hid (sameFrom j f g = v) := hv
              have E1 : Hid (drop j f = .node x y (k', n') l r) := e
              have E2 : Hid (drop j g = .node x2 y2 (k2', n2') l2 r2) := e2
              clear e e2 hv
              have z1 : w.heap.size < wr.heap.size := World.block_lt_of_cell? wr ⟨w.heap.size, 2, none⟩ cA
              have z2 : w.heap.size + 1 < wr.heap.size := World.block_lt_of_cell? wr ⟨w.heap.size + 1, 2, none⟩ cB
              have z3 : b < wr.heap.size := by omega
              have z4 : b2 < wr.heap.size := by omega
              go_wp2_with fail
              go_region_held3 (fun w' => w'.cell? ⟨w.heap.size, 2, none⟩ = some (.slice (some ⟨b, o, none⟩) (len f) cap) ∧ w'.cell? ⟨w.heap.size + 1, 2, none⟩ = some (.slice (some ⟨b2, o2, none⟩) (len g) cap2) ∧
                  w'.cell? ⟨b, o + j * 3, none⟩ = some (.int .i64 k') ∧ w'.cell? ⟨b, o + j * 3 + 1, none⟩ = some (.int .i64 n') ∧ w'.cell? ⟨b, o + j * 3 + 2, none⟩ = some (.slice p (len l) cap') ∧
                  w'.cell? ⟨b2, o2 + j * 3, none⟩ = some (.int .i64 k2') ∧ w'.cell? ⟨b2, o2 + j * 3 + 1, none⟩ = some (.int .i64 n2') ∧ w'.cell? ⟨b2, o2 + j * 3 + 2, none⟩ = some (.slice p2 (len l2) cap2')) (go_keep)
                (first | (go_at_call 14; refine (H.out l l2 k' n' k2' n2' p p2 cap' cap2' wr.drew (by omega) (by omega) (by omega) hsl.drew hsl2.drew).mono ?_; rintro e w1 ⟨rfl, hb1⟩; obtain ⟨hc, _⟩ := bcell (undrew hb1)))
              have hb2 : Below w.heap.size w w1 := hb.trans ((undrew hb1).mono (by omega))
              have hcA : w1.cell? ⟨w.heap.size, 2, none⟩ = some (.slice (some ⟨b, o, none⟩) (len f) cap) := by rw [hc _ _ z1]; exact cA
              have hcB : w1.cell? ⟨w.heap.size + 1, 2, none⟩ = some (.slice (some ⟨b2, o2, none⟩) (len g) cap2) := by rw [hc _ _ z2]; exact cB
              clear hc
              cases tt : (!sameT k' n' l k2' n2' l2)
              · have HY : Hid (sameFrom (j + 1) f g = v) := sameFrom_yes E1.out E2.out HV.out tt
                go_wp2_with fail
                go_roundw
                case rel => exact ⟨j + 1, hlt, by go_num, HY.out, hb2, hcA, hcB⟩
                case measure => simp [intOf]; omega
              · have HN : Hid (v = false) := sameFrom_no E1.out E2.out HV.out tt
                go_wp2_with fail
                go_ret
                obtain rfl := HN.out
                exact ⟨rfl, hb2⟩
            · go_wp2
              go_ret
              obtain rfl : j = len f := by omega
              obtain rfl : v = true := by rw [← hv, sameFrom_len T4.out]
              exact ⟨rfl, hb⟩
        · have E := sameT_len (k := k) (n := n) (k2 := k2) (n2 := n2) t3
          rw [E]
          clear E
          go_enter Tryd.func14, Tryd.ntmps14
          go_wp2
          go_ret
          exact ⟨rfl, BB⟩
      · rw [sameT_num t2]
        go_enter Tryd.func14, Tryd.ntmps14
        go_wp2
        go_ret
        exact ⟨rfl, BB⟩
    · rw [sameT_kind t1]
      go_enter Tryd.func14, Tryd.ntmps14
      go_wp2
      go_ret
      exact ⟨rfl, BB⟩
end Go.Proofs.YtcgpjihfligdbaaDoor
