/-
  The program's Wrong: what is wrong with a term; and Binds, of the kind that has most.
-/
import Derived.Test.YtcgpjihfligdbaaDoorW5
import Derived.Test.YtcgpjihfligdbaaDoorW2
import Derived.Test.YtcgpjihfligdbaaDoorW7
import Derived.Test.YtcgpjihfligdbaaDoorPlain3
namespace Go.Proofs.YtcgpjihfligdbaaDoor
open Go.RowKit Tmx
set_option maxRecDepth 60000

set_option maxHeartbeats 1000000 in
theorem arity_yes (k : Int) (w : World) (h : 1 ≤ k ∧ k ≤ 18) :
    Calls Tryd.prog 72 #[.int .i64 k] w fun e w' => e = .returned (.tuple #[.int .i64 ((shpL k).length : Int), .bool true]) ∧ w' = w := by
  have : k = 1 ∨ k = 2 ∨ k = 3 ∨ k = 4 ∨ k = 5 ∨ k = 6 ∨ k = 7 ∨ k = 8 ∨ k = 9 ∨ k = 10 ∨ k = 11 ∨ k = 12 ∨ k = 13 ∨ k = 14 ∨ k = 15 ∨ k = 16 ∨ k = 17 ∨ k = 18 := by omega
  rcases this with rfl | rfl | rfl | rfl | rfl | rfl | rfl | rfl | rfl | rfl | rfl | rfl | rfl | rfl | rfl | rfl | rfl | rfl
  all_goals
    clear h
    go_enter Tryd.func72, Tryd.ntmps72
    go_wp2
    go_ret2
    exact ⟨rfl, rfl⟩
set_option maxHeartbeats 1000000 in
theorem arity_no (k : Int) (w : World) (h : ¬ (1 ≤ k ∧ k ≤ 18)) :
    Calls Tryd.prog 72 #[.int .i64 k] w fun e w' => e = .returned (.tuple #[.int .i64 0, .bool false]) ∧ w' = w := by
  by_cases h1 : k < 1
  · clear h
    go_enter Tryd.func72, Tryd.ntmps72
    go_wp2
    go_ret2
    exact ⟨rfl, rfl⟩
  · have h2 : 18 < k := by omega
    clear h h1
    go_enter Tryd.func72, Tryd.ntmps72
    go_wp2
    go_ret2
    exact ⟨rfl, rfl⟩

/-- Whether a number is in its range. -/
def fitsB (bound decls k n : Int) : Bool := !(decide (n < 0) || decide (least bound decls k ≤ n))

set_option maxHeartbeats 1000000 in
theorem fits_any (bound decls k n within : Int) (sl : Value) (x y : Nat) (w : World) (hkn : k = 1 → 0 ≤ n ∧ n ≤ 1152921504606846976) (hw0 : 0 ≤ within) (hw1 : within ≤ 1152921504606846976)
    (cb : w.cell? ⟨x, 0, none⟩ = some (.int .i64 bound)) (cd : w.cell? ⟨y, 0, none⟩ = some (.int .i64 decls)) :
    Calls Tryd.prog 74 #[.agg #[.int .i64 k, .int .i64 n, sl], .int .i64 within, .pointer (some ⟨x, 0, none⟩), .pointer (some ⟨y, 0, none⟩)] w fun e w' => e = .returned (.bool (fitsB (bound + within) decls k n)) ∧ Below w.heap.size w w' := by
  have hx : x < w.heap.size := World.block_lt_of_cell? w ⟨x, 0, none⟩ cb
  have hy : y < w.heap.size := World.block_lt_of_cell? w ⟨y, 0, none⟩ cd
  have hB : Below w.heap.size w (w.alloc (.cells #[.int .i64 k, .int .i64 n, sl] 24)) := (Below.refl _ _).alloc (Nat.le_refl _) _
  by_cases h1 : k = 1
  · obtain ⟨n0, n1⟩ := hkn h1
    have t1 : (k == 1) = true := by simpa using h1
    have HF : Hid (fitsB (bound + within) decls k n = decide (n - within < bound)) := by
      show _ = _
      unfold fitsB least
      rw [if_pos h1, decide_eq_false (show ¬ n < 0 by omega), Bool.false_or]
      by_cases q : n - within < bound
      · rw [decide_eq_true q, decide_eq_false (show ¬ bound + within ≤ n by omega)]; rfl
      · rw [decide_eq_false q, decide_eq_true (show bound + within ≤ n by omega)]; rfl
    have tn : decide (0 ≤ n) = true := by simp; omega
    clear hkn h1
    go_enter Tryd.func74, Tryd.ntmps74
    go_wp2
    go_ret
    exact ⟨by rw [HF.out]; rfl, hB⟩
  · have t1 : (k == 1) = false := by simpa using h1
    by_cases h2 : k = 2
    · have t2 : (k == 2) = true := by simpa using h2
      cases q0 : decide (0 ≤ n)
      · have HF : Hid (fitsB (bound + within) decls k n = false) := by
          have : ¬ 0 ≤ n := by simpa using q0
          show _ = _
          unfold fitsB
          rw [decide_eq_true (show n < 0 by omega)]; rfl
        clear hkn h1 h2
        go_enter Tryd.func74, Tryd.ntmps74
        go_wp2
        go_ret
        exact ⟨by rw [HF.out]; rfl, hB⟩
      · have HF : Hid (fitsB (bound + within) decls k n = decide (n ≤ 3)) := by
          have : 0 ≤ n := by simpa using q0
          show _ = _
          unfold fitsB least
          rw [if_neg h1, if_pos h2, decide_eq_false (show ¬ n < 0 by omega), Bool.false_or]
          by_cases q : n ≤ 3
          · rw [decide_eq_true q, decide_eq_false (show ¬ 4 ≤ n by omega)]; rfl
          · rw [decide_eq_false q, decide_eq_true (show 4 ≤ n by omega)]; rfl
        clear hkn h1 h2
        go_enter Tryd.func74, Tryd.ntmps74
        go_wp2
        go_ret
        exact ⟨by rw [HF.out]; rfl, hB⟩
    · have t2 : (k == 2) = false := by simpa using h2
      by_cases h3 : k = 18
      · have t3 : (k == 18) = true := by simpa using h3
        cases q0 : decide (0 ≤ n)
        · have HF : Hid (fitsB (bound + within) decls k n = false) := by
            have : ¬ 0 ≤ n := by simpa using q0
            show _ = _
            unfold fitsB
            rw [decide_eq_true (show n < 0 by omega)]; rfl
          clear hkn h1 h2 h3
          go_enter Tryd.func74, Tryd.ntmps74
          go_wp2
          go_ret
          exact ⟨by rw [HF.out]; rfl, hB⟩
        · have HF : Hid (fitsB (bound + within) decls k n = decide (n < decls)) := by
            have : 0 ≤ n := by simpa using q0
            show _ = _
            unfold fitsB least
            rw [if_neg h1, if_neg h2, if_pos h3, decide_eq_false (show ¬ n < 0 by omega), Bool.false_or]
            by_cases q : n < decls
            · rw [decide_eq_true q, decide_eq_false (show ¬ decls ≤ n by omega)]; rfl
            · rw [decide_eq_false q, decide_eq_true (show decls ≤ n by omega)]; rfl
          clear hkn h1 h2 h3
          go_enter Tryd.func74, Tryd.ntmps74
          go_wp2
          go_ret
          exact ⟨by rw [HF.out]; rfl, hB⟩
      · have t3 : (k == 18) = false := by simpa using h3
        have HF : Hid (fitsB (bound + within) decls k n = (n == 0)) := by
          show _ = _
          unfold fitsB least
          rw [if_neg h1, if_neg h2, if_neg h3, Bool.eq_iff_iff]
          simp
          omega
        clear hkn h1 h2 h3
        go_enter Tryd.func74, Tryd.ntmps74
        go_wp2
        go_ret
        exact ⟨by rw [HF.out]; rfl, hB⟩

theorem hcFits : ∀ a W, Sem.run Tryd.prog (callFunc 74 a) W = .ok (Next.enter 74 a) W := fun a W => by kernel_rfl

set_option maxHeartbeats 2000000 in
theorem firstWrong_any (bound decls : Int) (x y : Nat) (W : World) (cb : W.cell? ⟨x, 0, none⟩ = some (.int .i64 bound)) (cd : W.cell? ⟨y, 0, none⟩ = some (.int .i64 decls)) (m : Nat) :
    ∀ (f : F) (k n : Int) (q : Option Addr) (cap : Nat) (around within : Int) (w : World), size f < m → nums f → (k = 1 → 0 ≤ n ∧ n ≤ 1152921504606846976) → 0 ≤ around → around ≤ 24 → 0 ≤ within → within + 2 * (24 - around) ≤ 1000000 → Sl w q f → Below W.heap.size W w →
    Calls Tryd.prog 75 #[.agg #[.int .i64 k, .int .i64 n, .slice q (len f) cap], .int .i64 around, .int .i64 within, .func (.func 74) #[] #[.pointer (some ⟨x, 0, none⟩), .pointer (some ⟨y, 0, none⟩)]] w fun e w' => e = .returned (.int .i64 (lookT decls (bound + within) (around + 1) k n f)) ∧ Below w.heap.size w w' := by
  have hcall := hcFits
  induction m with
  | zero => intro f k n q cap around within w h; omega
  | succ m ih =>
    intro f k n q cap around within w hm hnum hkn ha0 ha1 hw0 hw1 hs hW
    have H : Hid (∀ (f : F) (k n : Int) (q : Option Addr) (cap : Nat) (around within : Int) (w : World), size f < m → nums f → (k = 1 → 0 ≤ n ∧ n ≤ 1152921504606846976) → 0 ≤ around → around ≤ 24 → 0 ≤ within → within + 2 * (24 - around) ≤ 1000000 → Sl w q f → Below W.heap.size W w →
      Calls Tryd.prog 75 #[.agg #[.int .i64 k, .int .i64 n, .slice q (len f) cap], .int .i64 around, .int .i64 within, .func (.func 74) #[] #[.pointer (some ⟨x, 0, none⟩), .pointer (some ⟨y, 0, none⟩)]] w fun e w' => e = .returned (.int .i64 (lookT decls (bound + within) (around + 1) k n f)) ∧ Below w.heap.size w w') := ih
    clear ih
    have HCB : Hid (W.cell? ⟨x, 0, none⟩ = some (.int .i64 bound) ∧ W.cell? ⟨y, 0, none⟩ = some (.int .i64 decls)) := ⟨cb, cd⟩
    clear cb cd
    by_cases g1 : 24 ≤ around
    · rw [show lookT decls (bound + within) (around + 1) k n f = 9 by unfold lookT; rw [if_pos (by omega)]]
      clear hkn
      go_enter Tryd.func75, Tryd.ntmps75
      go_wp2_with fail
      go_ret
      exact ⟨rfl, (Below.refl _ _).alloc (Nat.le_refl _) _⟩
    · by_cases g2 : 1 ≤ k ∧ k ≤ 18
      · cases t3 : ((len f : Int) != ((shpL k).length : Int))
        · have el : len f = (shpL k).length := by have : (len f : Int) = ((shpL k).length : Int) := by simpa using t3
                                                  omega
          have EL : Hid (len f = (shpL k).length) := el
          have el4 : len f ≤ 4 := by have := shpL_len k; omega
          clear el
          have hkn2 := (show Hid (k = 1 → 0 ≤ n ∧ n ≤ 1152921504606846976) from hkn)
          clear hkn
          cases tf : fitsB (bound + within) decls k n
          · have LK : Hid (lookT decls (bound + within) (around + 1) k n f = 3) := by
              have h5 : 0 ≤ n → least (bound + within) decls k ≤ n := by simpa [fitsB] using tf
              have : n < 0 ∨ least (bound + within) decls k ≤ n := by
                rcases Int.lt_or_le n 0 with h | h
                · exact .inl h
                · exact .inr (h5 h)
              show _ = _
              unfold lookT
              rw [if_neg (by omega), if_neg (by simp; exact g2), if_neg (by simp; exact EL.out), if_pos this]
            have G2 : Hid (1 ≤ k ∧ k ≤ 18) := g2
            clear g2
            go_enter Tryd.func75, Tryd.ntmps75
            go_wp2_with fail
            refine (arity_yes k _ G2.out).mono ?_
            rintro e w1 ⟨rfl, rfl⟩
            go_wp2_with fail
            refine (fits_any bound decls k n within _ x y _ hkn2.out hw0 (by omega) (below_some (hW.trans (((Below.refl _ _).alloc (Nat.le_refl _) _).mono hW.size)) _ _ _ HCB.out.1) (below_some (hW.trans (((Below.refl _ _).alloc (Nat.le_refl _) _).mono hW.size)) _ _ _ HCB.out.2)).mono ?_
            rintro e w2 ⟨rfl, hb2⟩
            obtain ⟨c0, c1, c2, hb, hz⟩ := box3 hb2
            clear hb2
            rw [tf]
            go_wp2_with fail
            go_ret
            exact ⟨by rw [LK.out]; rfl, hb⟩
          · have LK : Hid (lookT decls (bound + within) (around + 1) k n f = lookF decls f (bound + within) (around + 1 + 1) k 0) := by
              have : ¬ (n < 0 ∨ least (bound + within) decls k ≤ n) := by simpa [fitsB] using tf
              show _ = _
              unfold lookT
              rw [if_neg (by omega), if_neg (by simp; exact g2), if_neg (by simp; exact EL.out), if_neg this]
            have G2 : Hid (1 ≤ k ∧ k ≤ 18) := g2
            clear g2
            obtain ⟨v, hv0⟩ : ∃ v, lookT decls (bound + within) (around + 1) k n f = v := ⟨_, rfl⟩
            rw [hv0]
            have LK2 : Hid (lookF decls f (bound + within) (around + 1 + 1) k 0 = v) := by rw [← hv0]; exact LK.out.symm
            clear LK hv0
            go_enter Tryd.func75, Tryd.ntmps75
            go_wp2_with fail
            refine (arity_yes k _ G2.out).mono ?_
            rintro e w1 ⟨rfl, rfl⟩
            go_wp2_with fail
            refine (fits_any bound decls k n within _ x y _ hkn2.out hw0 (by omega) (below_some (hW.trans (((Below.refl _ _).alloc (Nat.le_refl _) _).mono hW.size)) _ _ _ HCB.out.1) (below_some (hW.trans (((Below.refl _ _).alloc (Nat.le_refl _) _).mono hW.size)) _ _ _ HCB.out.2)).mono ?_
            rintro e w2 ⟨rfl, hb2⟩
            have bx := (Box.new w (.int .i64 k) (.int .i64 n) (.slice q (len f) cap)).below hb2
            have hb : Below w.heap.size w w2 := ((Below.refl _ _).alloc (Nat.le_refl _) _).trans (hb2.mono (by simp))
            obtain ⟨c0, c1, c2, _, _, _⟩ := bx.facts
            clear hb2
            rw [tf]
            go_wp2_with fail
            clear c0 c1 c2
            go_loopw [37] (fun i wr => ∃ j : Nat, j ≤ len f ∧ i = .int .i64 j ∧ Hid (lookF decls (drop j f) (bound + within) (around + 1 + 1) k j = v) ∧ Below w.heap.size w wr ∧ Box wr w.heap.size (.int .i64 k) (.int .i64 n) (.slice q (len f) cap)) (fun i _ => len f - (intOf i).toNat)
            case atStart => exact ⟨0, Nat.zero_le _, rfl, LK2, hb, bx⟩
            case round =>
              clear hb bx
              obtain ⟨j, hj, rfl, HV, hb, bx⟩ := hrel
              by_cases hlt : j < len f
              · obtain ⟨b, o, k', n', p, cap', x', y', l, r, rfl, e, hbl, c1, c2, c3, hsl⟩ := hs.at hb hlt
                have hz := size_drop j f
                rw [e, size] at hz
                have hnj := nums_drop j f hnum
                rw [e, nums] at hnj
                have E1 : Hid (drop j f = .node x' y' (k', n') l r) := e
                have HN : Hid (nums (.node x' y' (k', n') l r)) := hnj
                clear e hnj
                obtain ⟨x0, x1, x2, _, _, _⟩ := bx.facts
                have l1 := bx.lt
                have hbb := bindsAt_bd k j
                go_wp2_with fail
                go_region_held3 (fun w' => w'.cell? ⟨wr.heap.size, 0, none⟩ = some (.int .i64 k') ∧ w'.cell? ⟨wr.heap.size, 1, none⟩ = some (.int .i64 n') ∧ w'.cell? ⟨wr.heap.size, 2, none⟩ = some (.slice p (len l) cap') ∧
                    w'.cell? ⟨w.heap.size, 0, none⟩ = some (.int .i64 k)) (go_keep)
                  (first | (go_at_call 73; refine (bindsAt_any k j _).mono ?_; rintro e w' ⟨rfl, rfl⟩) | (go_at_call 75; rw [wrapI (within + bindsAt k j) (by omega) (by omega), wrapI (around + 1) (by omega) (by omega)]; refine (H.out l k' n' p cap' (around + 1) (within + bindsAt k j) _ (by omega) HN.out.2.1 HN.out.1 (by omega) (by omega) (by omega) (by omega) (hsl.below ((Below.refl _ _).alloc (Nat.le_refl _) _).drew) (hW.trans ((hb.trans (((Below.refl _ _).alloc (Nat.le_refl _) _).drew.mono hb.size)).mono hW.size))).mono ?_; rintro e w1 ⟨rfl, hb1'⟩; have hb1 := undrew hb1'; clear hb1'; have bx1 := (bx.alloc _).below hb1; have bn1 := (Box.new wr _ _ _).below hb1; obtain ⟨y0, y1, y2, _, _, _⟩ := bx1.facts; obtain ⟨u0, u1, u2, _, _, _⟩ := bn1.facts))
                have hb12 : Below wr.heap.size wr w1 := ((Below.refl _ _).alloc (Nat.le_refl _) _).trans (hb1.mono (by simp))
                have hb2 : Below w.heap.size w w1 := hb.trans (hb12.mono hb.size)
                rw [show bound + (within + bindsAt k j) = bound + within + bindsAt k j by omega]
                cases tt : (lookT decls (bound + within + bindsAt k j) (around + 1 + 1) k' n' l != 0)
                · have HY : Hid (lookF decls (drop (j + 1) f) (bound + within) (around + 1 + 1) k ((j + 1 : Nat)) = v) := lookF_yes E1.out HV.out tt
                  go_wp2_with fail
                  go_roundw
                  case rel => exact ⟨j + 1, hlt, by go_num, HY, hb2, bx1⟩
                  case measure => simp [intOf]; omega
                · have HN2 : Hid (lookT decls (bound + within + bindsAt k j) (around + 1 + 1) k' n' l = v) := lookF_no E1.out HV.out tt
                  go_wp2_with fail
                  go_ret
                  exact ⟨by rw [← HN2.out]; rfl, hb2⟩
              · go_wp2
                go_ret
                obtain rfl : j = len f := by omega
                have h0 := HV.out
                rw [drop_len, lookF] at h0
                subst h0
                exact ⟨rfl, hb⟩
        · have hne : len f ≠ (shpL k).length := by
            intro e
            have : (len f : Int) ≠ ((shpL k).length : Int) := by simpa using t3
            apply this
            rw [e]
          rw [show lookT decls (bound + within) (around + 1) k n f = 5 by unfold lookT; rw [if_neg (by omega), if_neg (by simp; exact g2), if_pos hne]]
          have G2 : Hid (1 ≤ k ∧ k ≤ 18) := g2
          clear hne g2 hkn
          go_enter Tryd.func75, Tryd.ntmps75
          go_wp2_with fail
          refine (arity_yes k _ G2.out).mono ?_
          rintro e w1 ⟨rfl, rfl⟩
          go_wp2_with fail
          go_ret
          exact ⟨rfl, (Below.refl _ _).alloc (Nat.le_refl _) _⟩
      · rw [show lookT decls (bound + within) (around + 1) k n f = 1 by unfold lookT; rw [if_neg (by omega), if_pos g2]]
        have G2 : Hid (¬ (1 ≤ k ∧ k ≤ 18)) := g2
        clear g2 hkn
        go_enter Tryd.func75, Tryd.ntmps75
        go_wp2_with fail
        refine (arity_no k _ G2.out).mono ?_
        rintro e w1 ⟨rfl, rfl⟩
        go_wp2_with fail
        go_ret
        exact ⟨rfl, (Below.refl _ _).alloc (Nat.le_refl _) _⟩

set_option maxHeartbeats 1000000 in
theorem twrong_any (f : F) (k n : Int) (q : Option Addr) (cap : Nat) (bound decls : Int) (w : World) (hnum : nums f) (hkn : k = 1 → 0 ≤ n ∧ n ≤ 1152921504606846976) (hs : Sl w q f) :
    Calls Tryd.prog 37 #[.agg #[.int .i64 k, .int .i64 n, .slice q (len f) cap], .int .i64 bound, .int .i64 decls] w fun e w' => e = .returned (.int .i64 (wrongT decls bound k n f)) ∧ Below w.heap.size w w' := by
  have HKN : Hid (k = 1 → 0 ≤ n ∧ n ≤ 1152921504606846976) := hkn
  clear hkn
  go_enter Tryd.func37, Tryd.ntmps37
  go_wp2_with fail
  have hB3 : Below w.heap.size w (((w.alloc (.cells #[.int .i64 k, .int .i64 n, .slice q (len f) cap] 24)).alloc (.cells #[.int .i64 bound] 3)).alloc (.cells #[.int .i64 decls] 3)) := (((Below.refl _ _).alloc (Nat.le_refl _) _).alloc (by simp) _).alloc (by simp; omega) _
  have cb : (((w.alloc (.cells #[.int .i64 k, .int .i64 n, .slice q (len f) cap] 24)).alloc (.cells #[.int .i64 bound] 3)).alloc (.cells #[.int .i64 decls] 3)).cell? ⟨w.heap.size + 1, 0, none⟩ = some (.int .i64 bound) := by simp [go_sem]
  have cd : (((w.alloc (.cells #[.int .i64 k, .int .i64 n, .slice q (len f) cap] 24)).alloc (.cells #[.int .i64 bound] 3)).alloc (.cells #[.int .i64 decls] 3)).cell? ⟨w.heap.size + 1 + 1, 0, none⟩ = some (.int .i64 decls) := by simp [go_sem]
  have bx := ((Box.new w (.int .i64 k) (.int .i64 n) (.slice q (len f) cap)).alloc (.cells #[.int .i64 bound] 3)).alloc (.cells #[.int .i64 decls] 3)
  have hz3 : (((w.alloc (.cells #[.int .i64 k, .int .i64 n, .slice q (len f) cap] 24)).alloc (.cells #[.int .i64 bound] 3)).alloc (.cells #[.int .i64 decls] 3)).heap.size = w.heap.size + 3 := by simp
  generalize (((w.alloc (.cells #[.int .i64 k, .int .i64 n, .slice q (len f) cap] 24)).alloc (.cells #[.int .i64 bound] 3)).alloc (.cells #[.int .i64 decls] 3)) = W3 at *
  have hcl := firstWrong_any bound decls (w.heap.size + 1) (w.heap.size + 1 + 1) W3 cb cd (size f + 1) f k n q cap 0 0 W3 (by omega) hnum HKN.out (by omega) (by omega) (by omega) (by omega) (hs.below hB3) (Below.refl _ _)
  rw [show bound + 0 = bound by omega, show (0 : Int) + 1 = 1 by omega] at hcl
  refine hcl.mono ?_
  rintro e w1 ⟨rfl, hb1⟩
  have bx1 := bx.below hb1
  have hb : Below w.heap.size w w1 := hB3.trans (hb1.mono (by omega))
  obtain ⟨c0, c1, c2, _, _, _⟩ := bx1.facts
  clear hcl bx cb cd hb1
  cases tt : (lookT decls bound 1 k n f != 0)
  · have e0 : lookT decls bound 1 k n f = 0 := by simpa using tt
    have hsm := look_small e0
    have w0 : wrongT decls bound k n f = if 60 < size f + 1 then 4 else 0 := by unfold wrongT; rw [e0]; simp
    rw [e0]
    clear e0 tt
    by_cases hm : 60 < size f + 1
    · have W0 : Hid (wrongT decls bound k n f = 4) := by rw [w0, if_pos hm]; rfl
      clear w0
      go_wp2_with fail
      refine (size_any (size f + 1) f k n q cap _ (by omega) hsm (hs.below hb)).mono ?_
      rintro e w2 ⟨rfl, hb2⟩
      go_wp2_with fail
      go_ret
      exact ⟨by rw [W0.out]; rfl, hb.trans (hb2.mono hb.size)⟩
    · have W0 : Hid (wrongT decls bound k n f = 0) := by rw [w0, if_neg hm]; rfl
      clear w0
      go_wp2_with fail
      refine (size_any (size f + 1) f k n q cap _ (by omega) hsm (hs.below hb)).mono ?_
      rintro e w2 ⟨rfl, hb2⟩
      go_wp2_with fail
      go_ret
      exact ⟨by rw [W0.out]; rfl, hb.trans (hb2.mono hb.size)⟩
  · have w0 : wrongT decls bound k n f = lookT decls bound 1 k n f := by unfold wrongT; rw [if_pos (by simpa using tt)]
    have W0 : Hid (wrongT decls bound k n f = lookT decls bound 1 k n f) := w0
    clear w0
    go_wp2_with fail
    go_ret
    exact ⟨by rw [W0.out]; rfl, hb⟩
end Go.Proofs.YtcgpjihfligdbaaDoor
