/-
  Lifted, and put back, plainly.
-/
import Derived.Test.YtcgpjihfligdbaaDoorPlain3
import Derived.Test.YtcgpjihfligdbaaDoorPlain5
namespace Tmx
open Go.Deep

/-- What Lift makes of a variable. -/
def liftG (by_ last : Int) : Fn2 := fun n within => (1, if last ≤ n - within then n + by_ else n, .nil)
/-- What Put makes of a variable. -/
def putG (uk un : Int) (uf : F) : Fn2 := fun n within => if n = within then mapT (liftG within 0) uk un uf 0 else if within < n then (1, n - 1, .nil) else (1, n, .nil)
def usesG (n : Int) : Int → Int → Bool := fun m within => m - within == n

/-- The numbers of variables are from 0 to M. -/
def numsTo (M : Int) : F → Prop
  | .nil => True
  | .node _ _ a l r => (a.1 = 1 → 0 ≤ a.2 ∧ a.2 ≤ M) ∧ numsTo M l ∧ numsTo M r
/-- Variables have no arguments. -/
def leafV : F → Prop
  | .nil => True
  | .node _ _ a l r => (a.1 = 1 → l = .nil) ∧ leafV l ∧ leafV r
theorem numsTo.nums {M : Int} (hM : M ≤ 1152921504606846976) : ∀ (f : F), numsTo M f → nums f
  | .nil, _ => trivial
  | .node _ _ a l r, h => ⟨fun e => ⟨(h.1 e).1, by have := (h.1 e).2; omega⟩, numsTo.nums hM l h.2.1, numsTo.nums hM r h.2.2⟩

theorem shp_one : (shpL 1).length = 0 := by decide

theorem look_right (decls M : Int) : ∀ (f : F) (bound deep k : Int) (i : Nat), lookF decls f bound deep k i = 0 → bound + 2 * (25 - deep) ≤ M → numsTo M f ∧ leafV f
  | .nil, _, _, _, _, _, _ => ⟨trivial, trivial⟩
  | .node x y a l r, bound, deep, k, i, h, hM => by
    obtain ⟨h1, h2⟩ := lookF_zero h
    obtain ⟨g1, g2, g3, g4, g5⟩ := lookT_zero h1
    have hb := bindsAt_bd k i
    obtain ⟨l1, l2⟩ := look_right decls M l _ _ _ _ g5 (by omega)
    obtain ⟨r1, r2⟩ := look_right decls M r _ _ _ _ h2 hM
    refine ⟨⟨fun e => ?_, l1, r1⟩, fun e => ?_, l2, r2⟩
    · have := g4.2
      unfold least at this
      rw [if_pos e] at this
      omega
    · rw [e, shp_one] at g3
      exact size_nil_of_len l g3

/-- What a right term is. -/
structure Right (M : Int) (k n : Int) (l : F) : Prop where
  num : k = 1 → 0 ≤ n ∧ n ≤ M
  leaf : k = 1 → l = .nil
  nums : numsTo M l
  leafs : leafV l
  small : size l ≤ 59
theorem wrong_right {decls bound k n : Int} {l : F} (hb : bound ≤ 200) (h : wrongT decls bound k n l = 0) : Right 1000 k n l := by
  obtain ⟨h1, h2⟩ := wrong_zero h
  obtain ⟨g1, g2, g3, g4, g5⟩ := lookT_zero h1
  obtain ⟨a, b⟩ := look_right decls 1000 l _ _ _ _ g5 (by omega)
  refine ⟨fun e => ?_, fun e => ?_, a, b, h2⟩
  · have := g4.2
    unfold least at this
    rw [if_pos e] at this
    omega
  · rw [e, shp_one] at g3
    exact size_nil_of_len l g3

theorem same_size : ∀ (f g : F), same f g = true → size f = size g
  | .nil, .nil, _ => rfl
  | .node _ _ a l r, .node _ _ a' l' r', h => by
    simp only [same, Bool.and_eq_true] at h
    rw [size, size, same_size l l' h.1.2, same_size r r' h.2]
  | .nil, .node _ _ _ _ _, h => by simp [same] at h
  | .node _ _ _ _ _, .nil, h => by simp [same] at h

theorem mapT_one (g : Fn2) (n : Int) (l : F) (w : Int) : mapT g 1 n l w = g n w := by unfold mapT; rw [if_pos rfl]
theorem mapT_else (g : Fn2) {k : Int} (hk : ¬ k = 1) (n : Int) (l : F) (w : Int) : mapT g k n l w = (k, n, mapF g l w k 0) := by unfold mapT; rw [if_neg hk]
theorem anyT_one (g : Int → Int → Bool) (n : Int) (l : F) (w : Int) : anyT g 1 n l w = g n w := by unfold anyT; rw [if_pos rfl]
theorem anyT_else (g : Int → Int → Bool) {k : Int} (hk : ¬ k = 1) (n : Int) (l : F) (w : Int) : anyT g k n l w = anyF g l w k 0 := by unfold anyT; rw [if_neg hk]

/-- What is lifted is nowhere what is new. -/
theorem lift_uses : ∀ (f : F) (w k : Int) (i : Nat), anyF (usesG 0) (mapF (liftG 1 0) f w k i) w k i = false
  | .nil, _, _, _ => by rw [mapF, anyF]
  | .node x y a l r, w, k, i => by
    rw [mapF_node, anyF_node, lift_uses r w k (i + 1), Bool.or_false]
    by_cases h : a.1 = 1
    · rw [h, mapT_one]
      show anyT (usesG 0) 1 _ _ _ = false
      rw [anyT_one]
      unfold usesG liftG
      simp only [beq_eq_false_iff_ne, ne_eq]
      split <;> omega
    · rw [mapT_else _ h]
      show anyT (usesG 0) a.1 _ _ _ = false
      rw [anyT_else _ h]
      exact lift_uses l _ _ _
theorem liftT_uses (k n : Int) (f : F) : anyT (usesG 0) (mapT (liftG 1 0) k n f 0).1 (mapT (liftG 1 0) k n f 0).2.1 (mapT (liftG 1 0) k n f 0).2.2 0 = false := by
  by_cases h : k = 1
  · subst h
    rw [mapT_one]
    show anyT (usesG 0) 1 _ _ _ = false
    rw [anyT_one]
    unfold usesG liftG
    simp only [beq_eq_false_iff_ne, ne_eq]
    split <;> omega
  · rw [mapT_else _ h]
    show anyT (usesG 0) k _ _ _ = false
    rw [anyT_else _ h]
    exact lift_uses f _ _ _

theorem put_lift_var (uk un : Int) (uf : F) (n w : Int) : putG uk un uf (liftG 1 0 n w).2.1 w = (1, n, .nil) := by
  unfold putG liftG
  dsimp only
  split
  · rename_i h
    rw [if_neg (by omega), if_pos (by omega)]
    simp
  · rename_i h
    rw [if_neg (by omega), if_neg (by omega)]
/-- Lifted, and put back. -/
theorem put_lift (uk un : Int) (uf : F) : ∀ (f : F) (w k : Int) (i : Nat), leafV f → same (mapF (putG uk un uf) (mapF (liftG 1 0) f w k i) w k i) f = true
  | .nil, _, _, _, _ => by rw [mapF, mapF, same]
  | .node x y a l r, w, k, i, hl => by
    rw [mapF_node, mapF_node, same, put_lift uk un uf r w k (i + 1) hl.2.2, Bool.and_true]
    by_cases h : a.1 = 1
    · rw [h, mapT_one]
      show (_ && _ && same (mapT _ 1 (liftG 1 0 a.2 _).2.1 _ _).2.2 l) = true
      rw [hl.1 h, mapT_one, put_lift_var]
      simp only [same, Bool.and_true]
      show ((mapT _ 1 (liftG 1 0 a.2 _).2.1 _ _).1 == 1 && (mapT _ 1 (liftG 1 0 a.2 _).2.1 _ _).2.1 == a.2) = true
      rw [mapT_one, put_lift_var]
      simp
    · rw [mapT_else _ h]
      dsimp only
      rw [mapT_else _ h]
      dsimp only
      rw [put_lift uk un uf l _ _ _ hl.2.1]
      simp
theorem put_liftT (uk un : Int) (uf : F) (k n : Int) (f : F) (hl : leafV f) (hv : k = 1 → f = .nil) :
    sameT (mapT (putG uk un uf) (mapT (liftG 1 0) k n f 0).1 (mapT (liftG 1 0) k n f 0).2.1 (mapT (liftG 1 0) k n f 0).2.2 0).1 (mapT (putG uk un uf) (mapT (liftG 1 0) k n f 0).1 (mapT (liftG 1 0) k n f 0).2.1 (mapT (liftG 1 0) k n f 0).2.2 0).2.1
      (mapT (putG uk un uf) (mapT (liftG 1 0) k n f 0).1 (mapT (liftG 1 0) k n f 0).2.1 (mapT (liftG 1 0) k n f 0).2.2 0).2.2 k n f = true := by
  by_cases h : k = 1
  · have hf := hv h
    subst h
    subst hf
    rw [mapT_one]
    have e : mapT (putG uk un uf) (liftG 1 0 n 0).1 (liftG 1 0 n 0).2.1 (liftG 1 0 n 0).2.2 0 = (1, n, .nil) := by
      show mapT (putG uk un uf) 1 _ _ _ = _
      rw [mapT_one, put_lift_var]
    rw [e]
    simp [sameT, same]
  · rw [mapT_else _ h]
    dsimp only
    rw [mapT_else _ h]
    dsimp only
    unfold sameT
    rw [put_lift uk un uf f _ _ _ hl]
    simp

theorem lift_lift_var (a b n w : Int) (ha : 0 ≤ a) : liftG b 0 (liftG a 0 n w).2.1 w = liftG (a + b) 0 n w := by
  unfold liftG
  dsimp only
  by_cases h : 0 ≤ n - w
  · rw [if_pos h, if_pos h, if_pos (by omega)]
    have : n + a + b = n + (a + b) := by omega
    rw [this]
  · rw [if_neg h, if_neg h, if_neg h]
/-- Lifted twice is lifted by both. -/
theorem lift_lift (a b : Int) (ha : 0 ≤ a) : ∀ (f : F) (w k : Int) (i : Nat), mapF (liftG b 0) (mapF (liftG a 0) f w k i) w k i = mapF (liftG (a + b) 0) f w k i
  | .nil, _, _, _ => by rw [mapF, mapF, mapF]
  | .node x y c l r, w, k, i => by
    rw [mapF_node, mapF_node, mapF_node, lift_lift a b ha r w k (i + 1)]
    by_cases h : c.1 = 1
    · have e : mapT (liftG b 0) (mapT (liftG a 0) c.1 c.2 l (w + bindsAt k i)).1 (mapT (liftG a 0) c.1 c.2 l (w + bindsAt k i)).2.1 (mapT (liftG a 0) c.1 c.2 l (w + bindsAt k i)).2.2 (w + bindsAt k i) = mapT (liftG (a + b) 0) c.1 c.2 l (w + bindsAt k i) := by
        rw [h, mapT_one, mapT_one]
        show mapT (liftG b 0) 1 _ _ _ = _
        rw [mapT_one, lift_lift_var a b _ _ ha]
      rw [e]
    · have e : mapT (liftG b 0) (mapT (liftG a 0) c.1 c.2 l (w + bindsAt k i)).1 (mapT (liftG a 0) c.1 c.2 l (w + bindsAt k i)).2.1 (mapT (liftG a 0) c.1 c.2 l (w + bindsAt k i)).2.2 (w + bindsAt k i) = mapT (liftG (a + b) 0) c.1 c.2 l (w + bindsAt k i) := by
        rw [mapT_else _ h, mapT_else _ h]
        dsimp only
        rw [mapT_else _ h, lift_lift a b ha l]
      rw [e]
theorem lift_liftT (a b : Int) (ha : 0 ≤ a) (k n : Int) (f : F) : mapT (liftG b 0) (mapT (liftG a 0) k n f 0).1 (mapT (liftG a 0) k n f 0).2.1 (mapT (liftG a 0) k n f 0).2.2 0 = mapT (liftG (a + b) 0) k n f 0 := by
  by_cases h : k = 1
  · subst h
    rw [mapT_one, mapT_one]
    show mapT (liftG b 0) 1 _ _ _ = _
    rw [mapT_one, lift_lift_var a b _ _ ha]
  · rw [mapT_else _ h, mapT_else _ h]
    dsimp only
    rw [mapT_else _ h, lift_lift a b ha f]

theorem lift_size (b last : Int) : ∀ (f : F) (w k : Int) (i : Nat), leafV f → size (mapF (liftG b last) f w k i) = size f
  | .nil, _, _, _, _ => rfl
  | .node x y a l r, w, k, i, hl => by
    rw [mapF_node, size, size, lift_size b last r _ _ _ hl.2.2]
    by_cases h : a.1 = 1
    · rw [h, mapT_one, hl.1 h]
      rfl
    · rw [mapT_else _ h, lift_size b last l _ _ _ hl.2.1]
theorem lift_sizeT (b last k n : Int) (f : F) (hl : leafV f) (hv : k = 1 → f = .nil) : size (mapT (liftG b last) k n f 0).2.2 = size f := by
  by_cases h : k = 1
  · rw [hv h, h, mapT_one]
    rfl
  · rw [mapT_else _ h]
    exact lift_size b last f _ _ _ hl
theorem lift_nums (b last M : Int) (hb : 0 ≤ b) : ∀ (f : F) (w k : Int) (i : Nat), numsTo M f → numsTo (M + b) (mapF (liftG b last) f w k i)
  | .nil, _, _, _, _ => trivial
  | .node x y a l r, w, k, i, hn => by
    rw [mapF_node]
    refine ⟨fun e => ?_, ?_, lift_nums b last M hb r _ _ _ hn.2.2⟩
    · by_cases h : a.1 = 1
      · have := hn.1 h
        rw [h, mapT_one]
        unfold liftG
        dsimp only
        split <;> omega
      · rw [mapT_else _ h] at e
        exact absurd e h
    · by_cases h : a.1 = 1
      · rw [h, mapT_one]
        trivial
      · rw [mapT_else _ h]
        exact lift_nums b last M hb l _ _ _ hn.2.1
theorem lift_leaf (b last : Int) : ∀ (f : F) (w k : Int) (i : Nat), leafV (mapF (liftG b last) f w k i)
  | .nil, _, _, _ => trivial
  | .node x y a l r, w, k, i => by
    rw [mapF_node]
    refine ⟨fun e => ?_, ?_, lift_leaf b last r _ _ _⟩
    · by_cases h : a.1 = 1
      · rw [h, mapT_one]
        rfl
      · rw [mapT_else _ h] at e
        exact absurd e h
    · by_cases h : a.1 = 1
      · rw [h, mapT_one]
        trivial
      · rw [mapT_else _ h]
        exact lift_leaf b last l _ _ _
/-- A right term, lifted. -/
theorem Right.lift {M k n b last : Int} {f : F} (h : Right M k n f) (hb : 0 ≤ b) : Right (M + b) (mapT (liftG b last) k n f 0).1 (mapT (liftG b last) k n f 0).2.1 (mapT (liftG b last) k n f 0).2.2 := by
  by_cases e : k = 1
  · have hf := h.leaf e
    have hn := h.num e
    subst e
    subst hf
    rw [mapT_one]
    refine ⟨fun _ => ?_, fun _ => rfl, trivial, trivial, by show size (BT.nil : F) ≤ 59; decide⟩
    unfold liftG
    dsimp only
    split <;> omega
  · have hs := lift_size b last f 0 k 0 h.leafs
    rw [mapT_else _ e]
    exact ⟨fun e' => absurd e' e, fun e' => absurd e' e, lift_nums b last M hb f _ _ _ h.nums, lift_leaf b last f _ _ _, by dsimp only; rw [hs]; exact h.small⟩
theorem same_refl : ∀ (f : F), same f f = true
  | .nil => rfl
  | .node _ _ a l r => by rw [same, same_refl l, same_refl r]; simp
theorem sameT_refl (k n : Int) (f : F) : sameT k n f k n f = true := by simp [sameT, same_refl]
end Tmx
