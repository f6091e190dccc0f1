/-
  A term in which each variable is what a function makes of it, plainly.
-/
/-
  Contracts of package term: Wrong.
-/
/-
  Contracts of package decl: names that are not taken; full.
-/
import Derived.Test.YthfjmcomhccbaaaGreatDoorPlain2m
import Derived.Test.YthfjmcomhccbaaaGreatDoorD0m
import Derived.Test.YthfjmcomhccbaaaGreatDoorB3m
namespace Tmx
open Go.Deep

/-- What becomes of a variable: of its number, and how many are bound around it. -/
abbrev Fn2 := Int → Int → Int × Int × F

def mapF (g : Fn2) : F → Int → Int → Nat → F
  | .nil, _, _, _ => .nil
  | .node _ _ a l r, within, k, i =>
    if a.1 = 1 then .node 0 0 ((g a.2 (within + bindsAt k i)).1, (g a.2 (within + bindsAt k i)).2.1) (g a.2 (within + bindsAt k i)).2.2 (mapF g r within k (i + 1))
    else .node 0 0 (a.1, a.2) (mapF g l (within + bindsAt k i) a.1 0) (mapF g r within k (i + 1))
def mapT (g : Fn2) (k n : Int) (l : F) (within : Int) : Int × Int × F := if k = 1 then g n within else (k, n, mapF g l within k 0)

theorem mapF_node (g : Fn2) (x y : Nat) (a : Int × Int) (l r : F) (within k : Int) (i : Nat) :
    mapF g (.node x y a l r) within k i = .node 0 0 ((mapT g a.1 a.2 l (within + bindsAt k i)).1, (mapT g a.1 a.2 l (within + bindsAt k i)).2.1) (mapT g a.1 a.2 l (within + bindsAt k i)).2.2 (mapF g r within k (i + 1)) := by
  rw [mapF]
  unfold mapT
  split <;> rfl

theorem len_mapF (g : Fn2) : ∀ (f : F) (within k : Int) (i : Nat), len (mapF g f within k i) = len f
  | .nil, _, _, _ => rfl
  | .node _ _ _ _ r, within, k, i => by rw [mapF_node, len, len, len_mapF g r]

theorem drop_mapF (g : Fn2) : ∀ (j : Nat) (f : F) (within k : Int) (i : Nat), drop j (mapF g f within k i) = mapF g (drop j f) within k (i + j)
  | 0, f, _, _, _ => by simp [drop]
  | j + 1, .nil, _, _, _ => by simp [drop, mapF]
  | j + 1, .node _ _ _ _ r, within, k, i => by rw [mapF_node, drop, drop, drop_mapF g j r, show i + 1 + j = i + (j + 1) by omega]

/-- The numbers of variables are neither below nought nor great. -/
def nums : F → Prop
  | .nil => True
  | .node _ _ a l r => (a.1 = 1 → 0 ≤ a.2 ∧ a.2 ≤ 1152921504606846976) ∧ nums l ∧ nums r

theorem nums_drop : ∀ (j : Nat) (f : F), nums f → nums (drop j f)
  | 0, _, h => by simpa [drop] using h
  | j + 1, .nil, h => by simp [drop, nums]
  | j + 1, .node _ _ _ _ r, h => by rw [drop]; exact nums_drop j r h.2.2
end Tmx

namespace Go.Proofs.YthfjmcomhccbaaaGreatDoor
open Go.RowKit Tmx
set_option maxRecDepth 60000

/-- Whether a number is in its range. -/
def fitsB (bound decls k n : Int) : Bool := !(decide (n < 0) || decide (least bound decls k ≤ n))

set_option maxHeartbeats 1000000 in
theorem fits_any (bound decls k n within : Int) (sl : Value) (x y : Nat) (w : World) (hkn : k = 1 → 0 ≤ n ∧ n ≤ 1152921504606846976) (hw0 : 0 ≤ within) (hw1 : within ≤ 1152921504606846976)
    (cb : w.cell? ⟨x, 0, none⟩ = some (.int .i64 bound)) (cd : w.cell? ⟨y, 0, none⟩ = some (.int .i64 decls)) :
    Calls Tryz.prog 127 #[.agg #[.int .i64 k, .int .i64 n, sl], .int .i64 within, .pointer (some ⟨x, 0, none⟩), .pointer (some ⟨y, 0, none⟩)] w fun e w' => e = .returned (.bool (fitsB (bound + within) decls k n)) ∧ Below w.heap.size w w' := by
  have hx : x < w.heap.size := World.block_lt_of_cell? w ⟨x, 0, none⟩ cb
  have hy : y < w.heap.size := World.block_lt_of_cell? w ⟨y, 0, none⟩ cd
  have hB : Below w.heap.size w (w.alloc (.cells #[.int .i64 k, .int .i64 n, sl] 30)) := (Below.refl _ _).alloc (Nat.le_refl _) _
  by_cases h1 : k = 1
  · obtain ⟨n0, n1⟩ := hkn h1
    have t1 : (k == 1) = true := by simpa using h1
    have HF : Hid (fitsB (bound + within) decls k n = decide (n - within < bound)) := by
      show _ = _
      unfold fitsB least
      rw [if_pos h1, decide_eq_false (show ¬ n < 0 by omega), Bool.false_or]
      by_cases q : n - within < bound
      · rw [decide_eq_true q, decide_eq_false (show ¬ bound + within ≤ n by omega)]; rfl
      · rw [decide_eq_false q, decide_eq_true (show bound + within ≤ n by omega)]; rfl
    have tn : decide (0 ≤ n) = true := by simp; omega
    clear hkn h1
    go_enter Tryz.func127, Tryz.ntmps127
    go_wp2
    go_ret
    exact ⟨by rw [HF.out]; rfl, hB⟩
  · have t1 : (k == 1) = false := by simpa using h1
    by_cases h2 : k = 2
    · have t2 : (k == 2) = true := by simpa using h2
      cases q0 : decide (0 ≤ n)
      · have HF : Hid (fitsB (bound + within) decls k n = false) := by
          have : ¬ 0 ≤ n := by simpa using q0
          show _ = _
          unfold fitsB
          rw [decide_eq_true (show n < 0 by omega)]; rfl
        clear hkn h1 h2
        go_enter Tryz.func127, Tryz.ntmps127
        go_wp2
        go_ret
        exact ⟨by rw [HF.out]; rfl, hB⟩
      · have HF : Hid (fitsB (bound + within) decls k n = decide (n ≤ 3)) := by
          have : 0 ≤ n := by simpa using q0
          show _ = _
          unfold fitsB least
          rw [if_neg h1, if_pos h2, decide_eq_false (show ¬ n < 0 by omega), Bool.false_or]
          by_cases q : n ≤ 3
          · rw [decide_eq_true q, decide_eq_false (show ¬ 4 ≤ n by omega)]; rfl
          · rw [decide_eq_false q, decide_eq_true (show 4 ≤ n by omega)]; rfl
        clear hkn h1 h2
        go_enter Tryz.func127, Tryz.ntmps127
        go_wp2
        go_ret
        exact ⟨by rw [HF.out]; rfl, hB⟩
    · have t2 : (k == 2) = false := by simpa using h2
      by_cases h3 : k = 18
      · have t3 : (k == 18) = true := by simpa using h3
        cases q0 : decide (0 ≤ n)
        · have HF : Hid (fitsB (bound + within) decls k n = false) := by
            have : ¬ 0 ≤ n := by simpa using q0
            show _ = _
            unfold fitsB
            rw [decide_eq_true (show n < 0 by omega)]; rfl
          clear hkn h1 h2 h3
          go_enter Tryz.func127, Tryz.ntmps127
          go_wp2
          go_ret
          exact ⟨by rw [HF.out]; rfl, hB⟩
        · have HF : Hid (fitsB (bound + within) decls k n = decide (n < decls)) := by
            have : 0 ≤ n := by simpa using q0
            show _ = _
            unfold fitsB least
            rw [if_neg h1, if_neg h2, if_pos h3, decide_eq_false (show ¬ n < 0 by omega), Bool.false_or]
            by_cases q : n < decls
            · rw [decide_eq_true q, decide_eq_false (show ¬ decls ≤ n by omega)]; rfl
            · rw [decide_eq_false q, decide_eq_true (show decls ≤ n by omega)]; rfl
          clear hkn h1 h2 h3
          go_enter Tryz.func127, Tryz.ntmps127
          go_wp2
          go_ret
          exact ⟨by rw [HF.out]; rfl, hB⟩
      · have t3 : (k == 18) = false := by simpa using h3
        have HF : Hid (fitsB (bound + within) decls k n = (n == 0)) := by
          show _ = _
          unfold fitsB least
          rw [if_neg h1, if_neg h2, if_neg h3, Bool.eq_iff_iff]
          simp
          omega
        clear hkn h1 h2 h3
        go_enter Tryz.func127, Tryz.ntmps127
        go_wp2
        go_ret
        exact ⟨by rw [HF.out]; rfl, hB⟩

theorem hcFits : ∀ a W, Sem.run Tryz.prog (callFunc 127 a) W = .ok (Next.enter 127 a) W := fun a W => by kernel_rfl

set_option maxHeartbeats 2000000 in
theorem firstWrong_any (bound decls : Int) (x y : Nat) (W : World) (cb : W.cell? ⟨x, 0, none⟩ = some (.int .i64 bound)) (cd : W.cell? ⟨y, 0, none⟩ = some (.int .i64 decls)) (m : Nat) :
    ∀ (f : F) (k n : Int) (q : Option Addr) (cap : Nat) (around within : Int) (w : World), size f < m → nums f → (k = 1 → 0 ≤ n ∧ n ≤ 1152921504606846976) → 0 ≤ around → around ≤ 24 → 0 ≤ within → within + 2 * (24 - around) ≤ 1000000 → Sl w q f → Below W.heap.size W w →
    Calls Tryz.prog 128 #[.agg #[.int .i64 k, .int .i64 n, .slice q (len f) cap], .int .i64 around, .int .i64 within, .func (.func 127) #[] #[.pointer (some ⟨x, 0, none⟩), .pointer (some ⟨y, 0, none⟩)]] w fun e w' => e = .returned (.int .i64 (lookT decls (bound + within) (around + 1) k n f)) ∧ Below w.heap.size w w' := by
  have hcall := hcFits
  induction m with
  | zero => intro f k n q cap around within w h; omega
  | succ m ih =>
    intro f k n q cap around within w hm hnum hkn ha0 ha1 hw0 hw1 hs hW
    have H : Hid (∀ (f : F) (k n : Int) (q : Option Addr) (cap : Nat) (around within : Int) (w : World), size f < m → nums f → (k = 1 → 0 ≤ n ∧ n ≤ 1152921504606846976) → 0 ≤ around → around ≤ 24 → 0 ≤ within → within + 2 * (24 - around) ≤ 1000000 → Sl w q f → Below W.heap.size W w →
      Calls Tryz.prog 128 #[.agg #[.int .i64 k, .int .i64 n, .slice q (len f) cap], .int .i64 around, .int .i64 within, .func (.func 127) #[] #[.pointer (some ⟨x, 0, none⟩), .pointer (some ⟨y, 0, none⟩)]] w fun e w' => e = .returned (.int .i64 (lookT decls (bound + within) (around + 1) k n f)) ∧ Below w.heap.size w w') := ih
    clear ih
    have HCB : Hid (W.cell? ⟨x, 0, none⟩ = some (.int .i64 bound) ∧ W.cell? ⟨y, 0, none⟩ = some (.int .i64 decls)) := ⟨cb, cd⟩
    clear cb cd
    by_cases g1 : 24 ≤ around
    · rw [show lookT decls (bound + within) (around + 1) k n f = 9 by unfold lookT; rw [if_pos (by omega)]]
      clear hkn
      go_enter Tryz.func128, Tryz.ntmps128
      go_wp2_with fail
      go_ret
      exact ⟨rfl, (Below.refl _ _).alloc (Nat.le_refl _) _⟩
    · by_cases g2 : 1 ≤ k ∧ k ≤ 18
      · cases t3 : ((len f : Int) != ((shpL k).length : Int))
        · have el : len f = (shpL k).length := by have : (len f : Int) = ((shpL k).length : Int) := by simpa using t3
                                                  omega
          have EL : Hid (len f = (shpL k).length) := el
          have el4 : len f ≤ 4 := by have := shpL_len k; omega
          clear el
          have hkn2 := (show Hid (k = 1 → 0 ≤ n ∧ n ≤ 1152921504606846976) from hkn)
          clear hkn
          cases tf : fitsB (bound + within) decls k n
          · have LK : Hid (lookT decls (bound + within) (around + 1) k n f = 3) := by
              have h5 : 0 ≤ n → least (bound + within) decls k ≤ n := by simpa [fitsB] using tf
              have : n < 0 ∨ least (bound + within) decls k ≤ n := by
                rcases Int.lt_or_le n 0 with h | h
                · exact .inl h
                · exact .inr (h5 h)
              show _ = _
              unfold lookT
              rw [if_neg (by omega), if_neg (by simp; exact g2), if_neg (by simp; exact EL.out), if_pos this]
            have G2 : Hid (1 ≤ k ∧ k ≤ 18) := g2
            clear g2
            go_enter Tryz.func128, Tryz.ntmps128
            go_wp2_with fail
            refine (arity_yes k _ G2.out).mono ?_
            rintro e w1 ⟨rfl, rfl⟩
            go_wp2_with fail
            refine (fits_any bound decls k n within _ x y _ hkn2.out hw0 (by omega) (below_some (hW.trans (((Below.refl _ _).alloc (Nat.le_refl _) _).mono hW.size)) _ _ _ HCB.out.1) (below_some (hW.trans (((Below.refl _ _).alloc (Nat.le_refl _) _).mono hW.size)) _ _ _ HCB.out.2)).mono ?_
            rintro e w2 ⟨rfl, hb2⟩
            obtain ⟨c0, c1, c2, hb, hz⟩ := box3 hb2
            clear hb2
            rw [tf]
            go_wp2_with fail
            go_ret
            exact ⟨by rw [LK.out]; rfl, hb⟩
          · have LK : Hid (lookT decls (bound + within) (around + 1) k n f = lookF decls f (bound + within) (around + 1 + 1) k 0) := by
              have : ¬ (n < 0 ∨ least (bound + within) decls k ≤ n) := by simpa [fitsB] using tf
              show _ = _
              unfold lookT
              rw [if_neg (by omega), if_neg (by simp; exact g2), if_neg (by simp; exact EL.out), if_neg this]
            have G2 : Hid (1 ≤ k ∧ k ≤ 18) := g2
            clear g2
            obtain ⟨v, hv0⟩ : ∃ v, lookT decls (bound + within) (around + 1) k n f = v := ⟨_, rfl⟩
            rw [hv0]
            have LK2 : Hid (lookF decls f (bound + within) (around + 1 + 1) k 0 = v) := by rw [← hv0]; exact LK.out.symm
            clear LK hv0
            go_enter Tryz.func128, Tryz.ntmps128
            go_wp2_with fail
            refine (arity_yes k _ G2.out).mono ?_
            rintro e w1 ⟨rfl, rfl⟩
            go_wp2_with fail
            refine (fits_any bound decls k n within _ x y _ hkn2.out hw0 (by omega) (below_some (hW.trans (((Below.refl _ _).alloc (Nat.le_refl _) _).mono hW.size)) _ _ _ HCB.out.1) (below_some (hW.trans (((Below.refl _ _).alloc (Nat.le_refl _) _).mono hW.size)) _ _ _ HCB.out.2)).mono ?_
            rintro e w2 ⟨rfl, hb2⟩
            have bx := (Box.new w (.int .i64 k) (.int .i64 n) (.slice q (len f) cap)).below hb2
            have hb : Below w.heap.size w w2 := ((Below.refl _ _).alloc (Nat.le_refl _) _).trans (hb2.mono (by simp))
            obtain ⟨c0, c1, c2, _, _, _⟩ := bx.facts
            clear hb2
            rw [tf]
            go_wp2_with fail
            clear c0 c1 c2
            go_loopw [37] (fun i wr => ∃ j : Nat, j ≤ len f ∧ i = .int .i64 j ∧ Hid (lookF decls (drop j f) (bound + within) (around + 1 + 1) k j = v) ∧ Below w.heap.size w wr ∧ Box wr w.heap.size (.int .i64 k) (.int .i64 n) (.slice q (len f) cap)) (fun i _ => len f - (intOf i).toNat)
            case atStart => exact ⟨0, Nat.zero_le _, rfl, LK2, hb, bx⟩
            case round =>
              clear hb bx
              obtain ⟨j, hj, rfl, HV, hb, bx⟩ := hrel
              by_cases hlt : j < len f
              · obtain ⟨b, o, k', n', p, cap', x', y', l, r, rfl, e, hbl, c1, c2, c3, hsl⟩ := hs.at hb hlt
                have hz := size_drop j f
                rw [e, size] at hz
                have hnj := nums_drop j f hnum
                rw [e, nums] at hnj
                have E1 : Hid (drop j f = .node x' y' (k', n') l r) := e
                have HN : Hid (nums (.node x' y' (k', n') l r)) := hnj
                clear e hnj
                obtain ⟨x0, x1, x2, _, _, _⟩ := bx.facts
                have l1 := bx.lt
                have hbb := bindsAt_bd k j
                go_wp2_with fail
                go_region_held3 (fun w' => w'.cell? ⟨wr.heap.size, 0, none⟩ = some (.int .i64 k') ∧ w'.cell? ⟨wr.heap.size, 1, none⟩ = some (.int .i64 n') ∧ w'.cell? ⟨wr.heap.size, 2, none⟩ = some (.slice p (len l) cap') ∧
                    w'.cell? ⟨w.heap.size, 0, none⟩ = some (.int .i64 k)) (go_keep)
                  (first | (go_at_call 51; refine (bindsAt_any k j _).mono ?_; rintro e w' ⟨rfl, rfl⟩) | (go_at_call 128; rw [wrapI (within + bindsAt k j) (by omega) (by omega), wrapI (around + 1) (by omega) (by omega)]; refine (H.out l k' n' p cap' (around + 1) (within + bindsAt k j) _ (by omega) HN.out.2.1 HN.out.1 (by omega) (by omega) (by omega) (by omega) (hsl.below ((Below.refl _ _).alloc (Nat.le_refl _) _).drew) (hW.trans ((hb.trans (((Below.refl _ _).alloc (Nat.le_refl _) _).drew.mono hb.size)).mono hW.size))).mono ?_; rintro e w1 ⟨rfl, hb1'⟩; have hb1 := undrew hb1'; clear hb1'; have bx1 := (bx.alloc _).below hb1; have bn1 := (Box.new wr _ _ _).below hb1; obtain ⟨y0, y1, y2, _, _, _⟩ := bx1.facts; obtain ⟨u0, u1, u2, _, _, _⟩ := bn1.facts))
                have hb12 : Below wr.heap.size wr w1 := ((Below.refl _ _).alloc (Nat.le_refl _) _).trans (hb1.mono (by simp))
                have hb2 : Below w.heap.size w w1 := hb.trans (hb12.mono hb.size)
                rw [show bound + (within + bindsAt k j) = bound + within + bindsAt k j by omega]
                cases tt : (lookT decls (bound + within + bindsAt k j) (around + 1 + 1) k' n' l != 0)
                · have HY : Hid (lookF decls (drop (j + 1) f) (bound + within) (around + 1 + 1) k ((j + 1 : Nat)) = v) := lookF_yes E1.out HV.out tt
                  go_wp2_with fail
                  go_roundw
                  case rel => exact ⟨j + 1, hlt, by go_num, HY, hb2, bx1⟩
                  case measure => simp [intOf]; omega
                · have HN2 : Hid (lookT decls (bound + within + bindsAt k j) (around + 1 + 1) k' n' l = v) := lookF_no E1.out HV.out tt
                  go_wp2_with fail
                  go_ret
                  exact ⟨by rw [← HN2.out]; rfl, hb2⟩
              · go_wp2
                go_ret
                obtain rfl : j = len f := by omega
                have h0 := HV.out
                rw [drop_len, lookF] at h0
                subst h0
                exact ⟨rfl, hb⟩
        · have hne : len f ≠ (shpL k).length := by
            intro e
            have : (len f : Int) ≠ ((shpL k).length : Int) := by simpa using t3
            apply this
            rw [e]
          rw [show lookT decls (bound + within) (around + 1) k n f = 5 by unfold lookT; rw [if_neg (by omega), if_neg (by simp; exact g2), if_pos hne]]
          have G2 : Hid (1 ≤ k ∧ k ≤ 18) := g2
          clear hne g2 hkn
          go_enter Tryz.func128, Tryz.ntmps128
          go_wp2_with fail
          refine (arity_yes k _ G2.out).mono ?_
          rintro e w1 ⟨rfl, rfl⟩
          go_wp2_with fail
          go_ret
          exact ⟨rfl, (Below.refl _ _).alloc (Nat.le_refl _) _⟩
      · rw [show lookT decls (bound + within) (around + 1) k n f = 1 by unfold lookT; rw [if_neg (by omega), if_pos g2]]
        have G2 : Hid (¬ (1 ≤ k ∧ k ≤ 18)) := g2
        clear g2 hkn
        go_enter Tryz.func128, Tryz.ntmps128
        go_wp2_with fail
        refine (arity_no k _ G2.out).mono ?_
        rintro e w1 ⟨rfl, rfl⟩
        go_wp2_with fail
        go_ret
        exact ⟨rfl, (Below.refl _ _).alloc (Nat.le_refl _) _⟩

set_option maxHeartbeats 1000000 in
theorem twrong_any (f : F) (k n : Int) (q : Option Addr) (cap : Nat) (bound decls : Int) (w : World) (hnum : nums f) (hkn : k = 1 → 0 ≤ n ∧ n ≤ 1152921504606846976) (hs : Sl w q f) :
    Calls Tryz.prog 105 #[.agg #[.int .i64 k, .int .i64 n, .slice q (len f) cap], .int .i64 bound, .int .i64 decls] w fun e w' => e = .returned (.int .i64 (wrongT decls bound k n f)) ∧ Below w.heap.size w w' := by
  have HKN : Hid (k = 1 → 0 ≤ n ∧ n ≤ 1152921504606846976) := hkn
  clear hkn
  go_enter Tryz.func105, Tryz.ntmps105
  go_wp2_with fail
  have hB3 : Below w.heap.size w (((w.alloc (.cells #[.int .i64 k, .int .i64 n, .slice q (len f) cap] 30)).alloc (.cells #[.int .i64 bound] 3)).alloc (.cells #[.int .i64 decls] 3)) := (((Below.refl _ _).alloc (Nat.le_refl _) _).alloc (by simp) _).alloc (by simp; omega) _
  have cb : (((w.alloc (.cells #[.int .i64 k, .int .i64 n, .slice q (len f) cap] 30)).alloc (.cells #[.int .i64 bound] 3)).alloc (.cells #[.int .i64 decls] 3)).cell? ⟨w.heap.size + 1, 0, none⟩ = some (.int .i64 bound) := by simp [go_sem]
  have cd : (((w.alloc (.cells #[.int .i64 k, .int .i64 n, .slice q (len f) cap] 30)).alloc (.cells #[.int .i64 bound] 3)).alloc (.cells #[.int .i64 decls] 3)).cell? ⟨w.heap.size + 1 + 1, 0, none⟩ = some (.int .i64 decls) := by simp [go_sem]
  have bx := ((Box.new w (.int .i64 k) (.int .i64 n) (.slice q (len f) cap)).alloc (.cells #[.int .i64 bound] 3)).alloc (.cells #[.int .i64 decls] 3)
  have hz3 : (((w.alloc (.cells #[.int .i64 k, .int .i64 n, .slice q (len f) cap] 30)).alloc (.cells #[.int .i64 bound] 3)).alloc (.cells #[.int .i64 decls] 3)).heap.size = w.heap.size + 3 := by simp
  generalize (((w.alloc (.cells #[.int .i64 k, .int .i64 n, .slice q (len f) cap] 30)).alloc (.cells #[.int .i64 bound] 3)).alloc (.cells #[.int .i64 decls] 3)) = W3 at *
  have hcl := firstWrong_any bound decls (w.heap.size + 1) (w.heap.size + 1 + 1) W3 cb cd (size f + 1) f k n q cap 0 0 W3 (by omega) hnum HKN.out (by omega) (by omega) (by omega) (by omega) (hs.below hB3) (Below.refl _ _)
  rw [show bound + 0 = bound by omega, show (0 : Int) + 1 = 1 by omega] at hcl
  refine hcl.mono ?_
  rintro e w1 ⟨rfl, hb1⟩
  have bx1 := bx.below hb1
  have hb : Below w.heap.size w w1 := hB3.trans (hb1.mono (by omega))
  obtain ⟨c0, c1, c2, _, _, _⟩ := bx1.facts
  clear hcl bx cb cd hb1
  cases tt : (lookT decls bound 1 k n f != 0)
  · have e0 : lookT decls bound 1 k n f = 0 := by simpa using tt
    have hsm := look_small e0
    have w0 : wrongT decls bound k n f = if 60 < size f + 1 then 4 else 0 := by unfold wrongT; rw [e0]; simp
    rw [e0]
    clear e0 tt
    by_cases hm : 60 < size f + 1
    · have W0 : Hid (wrongT decls bound k n f = 4) := by rw [w0, if_pos hm]; rfl
      clear w0
      go_wp2_with fail
      refine (size_any (size f + 1) f k n q cap _ (by omega) hsm (hs.below hb)).mono ?_
      rintro e w2 ⟨rfl, hb2⟩
      go_wp2_with fail
      go_ret
      exact ⟨by rw [W0.out]; rfl, hb.trans (hb2.mono hb.size)⟩
    · have W0 : Hid (wrongT decls bound k n f = 0) := by rw [w0, if_neg hm]; rfl
      clear w0
      go_wp2_with fail
      refine (size_any (size f + 1) f k n q cap _ (by omega) hsm (hs.below hb)).mono ?_
      rintro e w2 ⟨rfl, hb2⟩
      go_wp2_with fail
      go_ret
      exact ⟨by rw [W0.out]; rfl, hb.trans (hb2.mono hb.size)⟩
  · have w0 : wrongT decls bound k n f = lookT decls bound 1 k n f := by unfold wrongT; rw [if_pos (by simpa using tt)]
    have W0 : Hid (wrongT decls bound k n f = lookT decls bound 1 k n f) := w0
    clear w0
    go_wp2_with fail
    go_ret
    exact ⟨by rw [W0.out]; rfl, hb⟩
end Go.Proofs.YthfjmcomhccbaaaGreatDoor

namespace Go.Proofs.YthfjmcomhccbaaaGreatDoor
open Go.RowKit Tmx Evx
set_option maxRecDepth 60000

/-- A list of declarations as it lies, seven cells apart. -/
def DlAt (w : World) (p : Option Addr) (l : List Dcl) : Prop :=
  ∀ (i : Nat) (d : Dcl), l[i]? = some d → ∃ b o p1 p2 c1 c2, p = some ⟨b, o, none⟩ ∧ (∀ (j : Nat) (v : Value), (sevenD d p1 p2 c1 c2)[j]? = some v → w.cell? ⟨b, o + i * 7 + j, none⟩ = some v) ∧
    len d.T.2.2 ≤ c1 ∧ len d.B.2.2 ≤ c2 ∧ SlO (old w) w p1 d.T.2.2 ∧ SlO (old w) w p2 d.B.2.2
theorem DlAt.below {w w' : World} {p : Option Addr} {l : List Dcl} (h : DlAt w p l) (hb : Below w.heap.size w w') : DlAt w' p l := fun i d hi => by
  obtain ⟨b, o, p1, p2, c1, c2, e, hc, h1, h2, h3, h4⟩ := h i d hi
  exact ⟨b, o, p1, p2, c1, c2, e, fun j v hj => below_some hb _ _ _ (hc j v hj), h1, h2, h3.below hb, h4.below hb⟩
/-- Is it called otherwise than each of them? -/
def newB (l : List Dcl) (nm : List UInt8) : Bool := l.all fun d => !(d.nm == nm)

set_option maxHeartbeats 2000000 in
theorem called_any (d : Dcl) (p1 p2 : Option Addr) (c1 c2 nb : Nat) (nm : List UInt8) (w : World) (hn : w.cell? ⟨nb, 0, none⟩ = some (.string ⟨nm.toArray⟩)) (hne : (d.nm == nm) = false) :
    Calls Tryz.prog 125 #[.agg (sevenD d p1 p2 c1 c2).toArray, ptr nb] w fun e w' => e = .returned (.bool false) ∧ Below w.heap.size w w' := by
  have hb : Below w.heap.size w (w.alloc (.cells (sevenD d p1 p2 c1 c2).toArray 70)) := (Below.refl _ _).alloc (Nat.le_refl _) _
  have hn2 := below_some hb _ _ _ hn
  unfold sevenD ptr at *
  obtain ⟨⟨x0, _, _, _, _, _, _⟩, _⟩ := (Blk.new w #[.string ⟨d.nm.toArray⟩, .int .i64 d.T.1, .int .i64 d.T.2.1, .slice p1 (len d.T.2.2) c1, .int .i64 d.B.1, .int .i64 d.B.2.1, .slice p2 (len d.B.2.2) c2] 70).seven
  have HB := (show Hid _ from hb)
  clear hb
  go_enter Tryz.func125, Tryz.ntmps125
  go_wp2_with fail
  refine bodyPost_ret (v := .bool false) (by simp [results, Tryz.results125, go_sem]) rfl ⟨rfl, HB.out⟩
theorem hcCalled : ∀ a W, Sem.run Tryz.prog (callFunc 125 a) W = .ok (Next.enter 125 a) W := fun a W => by kernel_rfl
/-- A declaration's cells there. -/
theorem seven_at {w : World} {b o : Nat} {d : Dcl} {p1 p2 : Option Addr} {c1 c2 : Nat} (h : ∀ (j : Nat) (v : Value), (sevenD d p1 p2 c1 c2)[j]? = some v → w.cell? ⟨b, o + j, none⟩ = some v) :
    w.cell? ⟨b, o, none⟩ = some (.string ⟨d.nm.toArray⟩) ∧ w.cell? ⟨b, o + 1, none⟩ = some (.int .i64 d.T.1) ∧ w.cell? ⟨b, o + 2, none⟩ = some (.int .i64 d.T.2.1) ∧ w.cell? ⟨b, o + 3, none⟩ = some (.slice p1 (len d.T.2.2) c1) ∧
    w.cell? ⟨b, o + 4, none⟩ = some (.int .i64 d.B.1) ∧ w.cell? ⟨b, o + 5, none⟩ = some (.int .i64 d.B.2.1) ∧ w.cell? ⟨b, o + 6, none⟩ = some (.slice p2 (len d.B.2.2) c2) :=
  ⟨h 0 _ rfl, h 1 _ rfl, h 2 _ rfl, h 3 _ rfl, h 4 _ rfl, h 5 _ rfl, h 6 _ rfl⟩

set_option maxHeartbeats 2000000 in
theorem indexFunc_any (l : List Dcl) (p : Option Addr) (cap nb : Nat) (nm : List UInt8) (w : World) (hl : DlAt w p l) (hn : w.cell? ⟨nb, 0, none⟩ = some (.string ⟨nm.toArray⟩)) (hne : newB l nm = true) (hc : l.length ≤ 1000) :
    Calls Tryz.prog 140 #[.slice p l.length cap, .func (.func 125) #[] #[ptr nb]] w fun e w' => e = .returned (.int .i64 (-1)) ∧ Below w.heap.size w w' := by
  obtain ⟨n, hln⟩ : ∃ n, l.length = n := ⟨_, rfl⟩
  have HL : Hid (l.length = n) := hln
  rw [hln] at hc ⊢
  have HS : Hid (DlAt w p l ∧ w.cell? ⟨nb, 0, none⟩ = some (.string ⟨nm.toArray⟩) ∧ newB l nm = true) := ⟨hl, hn, hne⟩
  unfold ptr
  clear hl hn hne hln
  go_enter Tryz.func140, Tryz.ntmps140
  go_wp2_with fail
  have hcall := hcCalled
  go_loopw [5, 8] (fun _ i wr => ∃ j : Nat, j ≤ n ∧ i = .int .i64 j ∧ Below w.heap.size w wr) (fun _ i _ => n - (intOf i).toNat)
  case atStart => exact ⟨0, Nat.zero_le _, rfl, Below.refl _ _⟩
  case round =>
    obtain ⟨j, hj, rfl, hb⟩ := hrel
    by_cases hlt : j < n
    · obtain ⟨d, hd⟩ : ∃ d, l[j]? = some d := ⟨_, List.getElem?_eq_getElem (by rw [HL.out]; exact hlt)⟩
      obtain ⟨b, o, p1, p2, c1, c2, rfl, hcell, _⟩ := (HS.out.1.below hb) j d hd
      obtain ⟨x0, x1, x2, x3, x4, x5, x6⟩ := seven_at hcell
      have hnm : (d.nm == nm) = false := by
        have h := List.all_eq_true.1 HS.out.2.2 d (List.mem_of_getElem? hd)
        simpa using h
      have HC : Hid (Calls Tryz.prog 125 #[.agg #[.string ⟨d.nm.toArray⟩, .int .i64 d.T.1, .int .i64 d.T.2.1, .slice p1 (len d.T.2.2) c1, .int .i64 d.B.1, .int .i64 d.B.2.1, .slice p2 (len d.B.2.2) c2], .pointer (some ⟨nb, 0, none⟩)] wr fun e w' => e = .returned (.bool false) ∧ Below wr.heap.size wr w') := called_any d p1 p2 c1 c2 nb nm wr (below_some hb _ _ _ HS.out.2.1) hnm
      have HB := (show Hid _ from hb)
      clear hcell hnm hd hb
      go_wp2_with fail
      refine HC.out.mono ?_
      rintro e w2 ⟨rfl, hb2⟩
      have HB2 : Hid (Below w.heap.size w w2) := HB.out.trans (hb2.mono HB.out.size)
      clear hb2 HC HB x0 x1 x2 x3 x4 x5 x6
      go_wp2_with fail
      go_roundw
      case rel => exact ⟨j + 1, hlt, by go_num, HB2.out⟩
      case measure => simp [intOf]; omega
    · obtain rfl : j = n := by omega
      go_wp2_with fail
      refine bodyPost_ret (v := .int .i64 (-1)) (by simp [results, Tryz.results140, go_sem]) rfl ⟨rfl, hb⟩

set_option maxHeartbeats 2000000 in
theorem containsFunc_any (l : List Dcl) (p : Option Addr) (cap nb : Nat) (nm : List UInt8) (w : World) (hl : DlAt w p l) (hn : w.cell? ⟨nb, 0, none⟩ = some (.string ⟨nm.toArray⟩)) (hne : newB l nm = true) (hc : l.length ≤ 1000) :
    Calls Tryz.prog 126 #[.slice p l.length cap, .func (.func 125) #[] #[ptr nb]] w fun e w' => e = .returned (.bool false) ∧ Below w.heap.size w w' := by
  have HX := indexFunc_any l p cap nb nm w hl hn hne hc
  unfold ptr at *
  clear hl hn hne hc
  go_enter Tryz.func126, Tryz.ntmps126
  go_wp2_with fail
  refine HX.mono ?_
  rintro e w2 ⟨rfl, hb2⟩
  have HB := (show Hid _ from hb2)
  clear hb2 HX
  go_wp2_with fail
  refine bodyPost_ret (v := .bool false) (by simp [results, Tryz.results126, go_sem]) rfl ⟨rfl, HB.out⟩

/-- It is a name, in every world from there on. -/
def NameOK (nm : List UInt8) (w : World) : Prop := ∀ w', Below w.heap.size w w' → Calls Tryz.prog 57 #[.string ⟨nm.toArray⟩] w' fun e w'' => e = .returned (.bool true) ∧ Below w'.heap.size w' w''
set_option maxHeartbeats 2000000 in
theorem unfit_any (l : List Dcl) (p : Option Addr) (cap : Nat) (nm : List UInt8) (w : World) (hl : DlAt w p l) (hN : NameOK nm w) (hne : newB l nm = true) (hc : l.length ≤ 1000) :
    Calls Tryz.prog 101 #[.slice p l.length cap, .string ⟨nm.toArray⟩] w fun e w' => e = .returned (.int .i64 0) ∧ Below w.heap.size w w' := by
  have hb : Below w.heap.size w (w.alloc (.cells #[.string ⟨nm.toArray⟩] 9)) := (Below.refl _ _).alloc (Nat.le_refl _) _
  have h1 := (Blk.new w #[.string ⟨nm.toArray⟩] 9).one
  obtain ⟨n, hln⟩ : ∃ n, l.length = n := ⟨_, rfl⟩
  have HS : Hid (DlAt w p l ∧ NameOK nm w ∧ newB l nm = true ∧ n ≤ 1000 ∧ l.length = n ∧ Below w.heap.size w (w.alloc (.cells #[.string ⟨nm.toArray⟩] 9)) ∧ Blk (w.alloc (.cells #[.string ⟨nm.toArray⟩] 9)) w.heap.size #[.string ⟨nm.toArray⟩] 9) := ⟨hl, hN, hne, by omega, hln, hb, Blk.new _ _ _⟩
  have HNm := hN _ hb
  rw [hln]
  obtain ⟨x0, _⟩ := h1
  clear hl hN hne hc hln hb
  go_enter Tryz.func101, Tryz.ntmps101
  go_wp2_with fail
  refine HNm.mono ?_
  rintro e w1 ⟨rfl, hb1⟩
  have HB1 : Hid (Below w.heap.size w w1) := HS.out.2.2.2.2.2.1.trans (hb1.mono (by simp))
  have hx1 := (HS.out.2.2.2.2.2.2.below hb1).one
  obtain ⟨y0, _⟩ := hx1
  have HX : Calls Tryz.prog 126 #[.slice p n cap, .func (.func 125) #[] #[.pointer (some ⟨w.heap.size, 0, none⟩)]] w1 fun e w' => e = .returned (.bool false) ∧ Below w1.heap.size w1 w' := HS.out.2.2.2.2.1 ▸ containsFunc_any l p cap w.heap.size nm w1 (HS.out.1.below HB1.out) y0 HS.out.2.2.1 (by have := HS.out.2.2.2.1; have := HS.out.2.2.2.2.1; omega)
  clear hb1 HNm x0 y0
  go_wp2_with fail
  refine HX.mono ?_
  rintro e w2 ⟨rfl, hb2⟩
  have HB2 : Hid (Below w.heap.size w w2) := HB1.out.trans (hb2.mono HB1.out.size)
  clear hb2 HX
  go_wp2_with fail
  refine bodyPost_ret (v := .int .i64 0) (by simp [results, Tryz.results101, go_sem]) rfl ⟨rfl, HB2.out⟩

theorem full_any (p : Option Addr) (n cap : Nat) (w : World) (hn : n < 12) :
    Calls Tryz.prog 103 #[.slice p n cap] w fun e w' => e = .returned (.int .i64 0) ∧ w' = w := by
  have h : ¬ ((12 : Int) ≤ (n : Int)) := by omega
  go_enter Tryz.func103, Tryz.ntmps103
  go_wp2_with fail
  refine bodyPost_ret (v := .int .i64 0) (by simp [results, Tryz.results103, go_sem]) rfl ⟨rfl, rfl⟩
end Go.Proofs.YthfjmcomhccbaaaGreatDoor
