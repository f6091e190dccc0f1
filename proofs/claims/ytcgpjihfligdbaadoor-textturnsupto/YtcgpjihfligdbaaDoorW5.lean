/-
  look: the first error of a term.
-/
import Derived.Test.YtcgpjihfligdbaaDoorW4m
import Derived.Test.YtcgpjihfligdbaaDoorPlain2m
import Derived.Deep.RegionHeld3
namespace Go.Proofs.YtcgpjihfligdbaaDoor
open Go.RowKit Tmx

/-- What is bound at the argument number j. -/
theorem bound_at (k bound : Int) (j : Nat) (h : j < (shp k).size) (g1 : 1 ≤ k) (g2 : k ≤ 18) (h0 : 0 ≤ bound) (h1 : bound ≤ 4611686018427387902) :
    IntKind.i64.wrap (bound + IntKind.i64.wrap (IntKind.u8.wrap (((shp k)[j]).toNat - 48))) = bound + bindsAt k j := by
  have hb := bindsAt_bd k j
  have e : (((shp k)[j]).toNat : Int) = 48 + bindsAt k j := shp_byte k ⟨g1, g2⟩ j (by simpa [shp, ByteArray.size] using h)
  rw [e, wrapB _ (by omega) (by omega), wrapI (48 + bindsAt k j - 48) (by omega) (by omega), wrapI _ (by omega) (by omega)]
  omega

set_option maxHeartbeats 1000000 in
theorem look_any (m : Nat) : ∀ (f : F) (k n : Int) (q : Option Addr) (cap : Nat) (bound decls deep : Int) (w : World), size f < m → 0 ≤ bound → 1 ≤ deep → deep ≤ 25 → bound + 2 * (25 - deep) ≤ 4611686018427387904 → Sl w q f →
    Calls Tryd.prog 39 #[.agg #[.int .i64 k, .int .i64 n, .slice q (len f) cap], .int .i64 bound, .int .i64 decls, .int .i64 deep] w fun e w' => e = .returned (.int .i64 (lookT decls bound deep k n f)) ∧ Below w.heap.size w w' := by
  induction m with
  | zero => intro f k n q cap bound decls deep w h; omega
  | succ m ih =>
    intro f k n q cap bound decls deep w hm h0 h1 h25 hbd hs
    have H := (show Hid _ from ih)
    clear ih
    by_cases g1 : 24 < deep
    · rw [show lookT decls bound deep k n f = 9 by unfold lookT; rw [if_pos g1]]
      go_enter Tryd.func39, Tryd.ntmps39
      go_wp2_with fail
      go_ret
      exact ⟨rfl, (Below.refl _ _).alloc (Nat.le_refl _) _⟩
    · by_cases g2 : 1 ≤ k ∧ k ≤ 18
      · obtain ⟨g2a, g2b⟩ := g2
        have ts : ((shp k).toList == [45]) = false := by
          rw [ByteArray.toList_eq]
          simpa [shp] using shp_none k ⟨g2a, g2b⟩
        cases t3 : ((len f : Int) != ((shp k).size : Int))
        · have hk4 : ((k == 1) = true ∧ least bound decls k = bound) ∨ ((k == 1) = false ∧ (k == 2) = true ∧ least bound decls k = 4) ∨ ((k == 1) = false ∧ (k == 2) = false ∧ (k == 18) = true ∧ least bound decls k = decls) ∨ ((k == 1) = false ∧ (k == 2) = false ∧ (k == 18) = false ∧ least bound decls k = 1) := by
            unfold least
            by_cases a1 : k = 1
            · left; simp [a1]
            · by_cases a2 : k = 2
              · right; left; simp [a2]
              · by_cases a3 : k = 18
                · right; right; left; simp [a3]
                · right; right; right; simp [a1, a2, a3]
          have el : len f = (shp k).size := by have : (len f : Int) = ((shp k).size : Int) := by simpa using t3
                                               omega
          have el2 : len f = (shpL k).length := by rw [el]; simp [shp, ByteArray.size]
          have EL : Hid (len f = (shpL k).length) := el2
          have el3 : len f ≤ (shp k).size ∧ (shp k).size ≤ len f := by omega
          have el4 : (shp k).size ≤ 4 := by have := shpL_len k; omega
          clear el el2
          by_cases hr : n < 0 ∨ least bound decls k ≤ n
          · rw [show lookT decls bound deep k n f = 3 by unfold lookT; rw [if_neg g1, if_neg (by simp; exact ⟨g2a, g2b⟩), if_neg (by simp; exact EL.out), if_pos hr]]
            by_cases hr1 : n < 0
            · have td1 : decide (n < 0) = true := by simp; omega
              clear hr
              rcases hk4 with ⟨t4, hl⟩ | ⟨t4, t5, hl⟩ | ⟨t4, t5, t6, hl⟩ | ⟨t4, t5, t6, hl⟩
              all_goals
                clear hl
                go_enter Tryd.func39, Tryd.ntmps39
                go_wp2_with fail
                refine (shape_any k _).mono ?_
                rintro e w1 ⟨rfl, hb1⟩
                obtain ⟨c0, c1, c2, hb, hz⟩ := box3 hb1
                clear hb1
                go_wp2_with fail
                go_ret
                exact ⟨rfl, hb⟩
            · have td1 : decide (n < 0) = false := by simp; omega
              have hr2 : least bound decls k ≤ n := by omega
              clear hr
              rcases hk4 with ⟨t4, hl⟩ | ⟨t4, t5, hl⟩ | ⟨t4, t5, t6, hl⟩ | ⟨t4, t5, t6, hl⟩
              all_goals
                rw [hl] at hr2
                clear hl
                have td2 := decide_eq_true hr2
                go_enter Tryd.func39, Tryd.ntmps39
                go_wp2_with fail
                refine (shape_any k _).mono ?_
                rintro e w1 ⟨rfl, hb1⟩
                obtain ⟨c0, c1, c2, hb, hz⟩ := box3 hb1
                clear hb1
                go_wp2_with fail
                go_ret
                exact ⟨rfl, hb⟩
          · have LK : Hid (lookT decls bound deep k n f = lookF decls f bound (deep + 1) k 0) := by unfold lookT; rw [if_neg g1, if_neg (by simp; exact ⟨g2a, g2b⟩), if_neg (by simp; exact EL.out), if_neg hr]; rfl
            generalize lookT decls bound deep k n f = v at LK ⊢
            have hr1 : 0 ≤ n := by omega
            have hr2 : n < least bound decls k := by omega
            clear hr
            rcases hk4 with ⟨t4, hl⟩ | ⟨t4, t5, hl⟩ | ⟨t4, t5, t6, hl⟩ | ⟨t4, t5, t6, hl⟩
            all_goals
              rw [hl] at hr2
              clear hl
              have td1 : decide (n < 0) = false := by simp; omega
              have td2 := decide_eq_false (Int.not_le.2 hr2)
              go_enter Tryd.func39, Tryd.ntmps39
              go_wp2_with fail
              refine (shape_any k _).mono ?_
              rintro e w1 ⟨rfl, hb1⟩
              obtain ⟨c0, c1, c2, hb, hz⟩ := box3 hb1
              clear hb1
              go_wp2_with fail
              go_loopw [49] (fun i wr => ∃ j : Nat, j ≤ len f ∧ i = .int .i64 j ∧ lookF decls (drop j f) bound (deep + 1) k j = v ∧ Below w.heap.size w wr) (fun i _ => len f - (intOf i).toNat)
              case atStart => exact ⟨0, Nat.zero_le _, rfl, LK.out.symm, hb⟩
              case round =>
                clear c0 c1 c2 hb hz
                obtain ⟨j, hj, rfl, hv, hb⟩ := hrel
                have HV : Hid (lookF decls (drop j f) bound (deep + 1) k j = v) := hv
                clear hv
                by_cases hlt : j < len f
                · obtain ⟨b, o, k', n', p, cap', x, y, l, r, rfl, e, hbl, c1, c2, c3, hsl⟩ := hs.at hb hlt
                  have hz := size_drop j f
                  rw [e, size] at hz
                  have hll := len_le_size l
                  have E1 : Hid (drop j f = .node x y (k', n') l r) := e
                  clear e
                  have hlt2 : (j : Int) < ((shp k).size : Int) := by omega
                  have hlt3 : j < (shp k).size := by omega
                  have hbb := bindsAt_bd k j
                  go_wp2_with fail
                  go_region_held3 (fun w' => w'.cell? ⟨wr.heap.size, 0, none⟩ = some (.int .i64 k') ∧ w'.cell? ⟨wr.heap.size, 1, none⟩ = some (.int .i64 n') ∧ w'.cell? ⟨wr.heap.size, 2, none⟩ = some (.slice p (len l) cap')) (go_keep)
                    (first | (go_at_call 39; rw [bound_at k bound j hlt3 g2a g2b h0 (by omega), wrapI (deep + 1) (by omega) (by omega)]; refine (H.out l k' n' p cap' (bound + bindsAt k j) decls (deep + 1) _ (by omega) (by omega) (by omega) (by omega) (by omega) (hsl.below ((Below.refl _ _).alloc (Nat.le_refl _) _).drew)).mono ?_; rintro e w1 ⟨rfl, hb1⟩; obtain ⟨c0', c1', c2', hb', hz'⟩ := box3 (undrew hb1)))
                  have hb2 : Below w.heap.size w w1 := hb.trans (hb'.mono hb.size)
                  cases tt : (lookT decls (bound + bindsAt k j) (deep + 1) k' n' l != 0)
                  · have HY : Hid (lookF decls (drop (j + 1) f) bound (deep + 1) k ((j + 1 : Nat)) = v) := lookF_yes E1.out HV.out tt
                    go_wp2_with fail
                    go_roundw
                    case rel => exact ⟨j + 1, hlt, by go_num, HY.out, hb2⟩
                    case measure => simp [intOf]; omega
                  · have HN : Hid (lookT decls (bound + bindsAt k j) (deep + 1) k' n' l = v) := lookF_no E1.out HV.out tt
                    go_wp2_with fail
                    go_ret
                    exact ⟨by rw [← HN.out]; rfl, hb2⟩
                · go_wp2
                  go_ret
                  obtain rfl : j = len f := by omega
                  have := HV.out
                  rw [drop_len, lookF] at this
                  subst this
                  exact ⟨rfl, hb⟩
        · have hne : len f ≠ (shpL k).length := by
            intro e
            have : (len f : Int) ≠ ((shp k).size : Int) := by simpa using t3
            apply this
            rw [e]
            simp [shp, ByteArray.size]
          rw [show lookT decls bound deep k n f = 5 by unfold lookT; rw [if_neg g1, if_neg (by simp; exact ⟨g2a, g2b⟩), if_pos hne]]
          clear hne
          go_enter Tryd.func39, Tryd.ntmps39
          go_wp2_with fail
          refine (shape_any k _).mono ?_
          rintro e w1 ⟨rfl, hb1⟩
          obtain ⟨c0, c1, c2, hb, hz⟩ := box3 hb1
          clear hb1
          go_wp2_with fail
          go_ret
          exact ⟨rfl, hb⟩
      · rw [show lookT decls bound deep k n f = 1 by unfold lookT; rw [if_neg g1, if_pos g2]]
        have e1 : shp k = ⟨#[45]⟩ := by unfold shp shpL; rw [if_neg g2]
        have g3 : k < 1 ∨ 18 < k := by omega
        clear g2
        go_enter Tryd.func39, Tryd.ntmps39
        go_wp2_with fail
        refine (shape_any k _).mono ?_
        rintro e w1 ⟨rfl, hb1⟩
        obtain ⟨c0, c1, c2, hb, hz⟩ := box3 hb1
        clear hb1
        rw [e1]
        clear e1
        go_wp2_with fail
        go_ret
        exact ⟨rfl, hb⟩
end Go.Proofs.YtcgpjihfligdbaaDoor
