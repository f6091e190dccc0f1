/-
  What is wrong with a term, plainly, as the document tells it.
-/
import Derived.Test.YtcgpjihfligdbaaDoorPlain
namespace Tmx
open Go.Deep

/-- A number of a term of kind k must be below that. -/
def least (bound decls k : Int) : Int := if k = 1 then bound else if k = 2 then 4 else if k = 18 then decls else 1

/-- The first error of the terms f, the arguments from number i on of a term of kind k. -/
def lookF (decls : Int) : F → Int → Int → Int → Nat → Int
  | .nil, _, _, _, _ => 0
  | .node _ _ a l r, bound, deep, k, i =>
    if (if 24 < deep then 9 else if ¬ (1 ≤ a.1 ∧ a.1 ≤ 18) then 1 else if len l ≠ (shpL a.1).length then 5 else if a.2 < 0 ∨ least (bound + bindsAt k i) decls a.1 ≤ a.2 then 3 else lookF decls l (bound + bindsAt k i) (deep + 1) a.1 0) ≠ 0
    then (if 24 < deep then 9 else if ¬ (1 ≤ a.1 ∧ a.1 ≤ 18) then 1 else if len l ≠ (shpL a.1).length then 5 else if a.2 < 0 ∨ least (bound + bindsAt k i) decls a.1 ≤ a.2 then 3 else lookF decls l (bound + bindsAt k i) (deep + 1) a.1 0)
    else lookF decls r bound deep k (i + 1)
/-- The first error of one term. -/
def lookT (decls bound deep k n : Int) (l : F) : Int :=
  if 24 < deep then 9 else if ¬ (1 ≤ k ∧ k ≤ 18) then 1 else if len l ≠ (shpL k).length then 5 else if n < 0 ∨ least bound decls k ≤ n then 3 else lookF decls l bound (deep + 1) k 0

theorem lookF_node (decls : Int) (x y : Nat) (a : Int × Int) (l r : F) (bound deep k : Int) (i : Nat) :
    lookF decls (.node x y a l r) bound deep k i = if lookT decls (bound + bindsAt k i) deep a.1 a.2 l ≠ 0 then lookT decls (bound + bindsAt k i) deep a.1 a.2 l else lookF decls r bound deep k (i + 1) := by
  rw [lookF]
  rfl

theorem tab_byte : ∀ (K : Fin 19) (i : Fin 4), (h : i.val < (shapeTab.getD K.val []).length) → (((shapeTab.getD K.val [])[i.val]).toNat : Int) = 48 + bindsAt (K.val : Int) (i.val : Int) := by decide
theorem tab_len : ∀ (K : Fin 19), (shapeTab.getD K.val []).length ≤ 4 := by decide
theorem tab_none : ∀ (K : Fin 19), shapeTab.getD K.val [] ≠ [45] := by decide
/-- The byte number i of a shape. -/
theorem shp_byte (k : Int) (h : 1 ≤ k ∧ k ≤ 18) (i : Nat) (hi : i < (shpL k).length) : (((shpL k)[i]).toNat : Int) = 48 + bindsAt k i := by
  obtain ⟨K, rfl⟩ := Int.eq_ofNat_of_zero_le (show 0 ≤ k by omega)
  have e : shpL (K : Int) = shapeTab.getD K [] := by unfold shpL; rw [if_pos h, Int.toNat_natCast]
  have h4 := tab_len ⟨K, by omega⟩
  simp only [e] at hi ⊢
  exact tab_byte ⟨K, by omega⟩ ⟨i, by simp only at h4; omega⟩ hi
theorem bindsAt_bd (k i : Int) : 0 ≤ bindsAt k i ∧ bindsAt k i ≤ 2 := by
  unfold bindsAt
  repeat' split
  all_goals omega
theorem shpL_len (k : Int) : (shpL k).length ≤ 4 := by
  by_cases h : 1 ≤ k ∧ k ≤ 18
  · obtain ⟨K, rfl⟩ := Int.eq_ofNat_of_zero_le (show 0 ≤ k by omega)
    unfold shpL
    rw [if_pos h, Int.toNat_natCast]
    exact tab_len ⟨K, by omega⟩
  · unfold shpL
    rw [if_neg h]
    decide
theorem shp_none (k : Int) (h : 1 ≤ k ∧ k ≤ 18) : shpL k ≠ [45] := by
  obtain ⟨K, rfl⟩ := Int.eq_ofNat_of_zero_le (show 0 ≤ k by omega)
  unfold shpL
  rw [if_pos h, Int.toNat_natCast]
  exact tab_none ⟨K, by omega⟩

theorem lookF_yes {decls : Int} {f : F} {j : Nat} {x y : Nat} {k' n' : Int} {l r : F} {bound deep k v : Int} (e : drop j f = .node x y (k', n') l r) (h : lookF decls (drop j f) bound deep k j = v) (ht : (lookT decls (bound + bindsAt k j) deep k' n' l != 0) = false) :
    lookF decls (drop (j + 1) f) bound deep k (j + 1) = v := by
  rw [e, lookF_node] at h
  rw [drop_succ j f _ _ _ _ _ e]
  have : lookT decls (bound + bindsAt k j) deep k' n' l = 0 := by simpa using ht
  simp only [this] at h
  simpa using h
theorem lookF_no {decls : Int} {f : F} {j : Nat} {x y : Nat} {k' n' : Int} {l r : F} {bound deep k v : Int} (e : drop j f = .node x y (k', n') l r) (h : lookF decls (drop j f) bound deep k j = v) (ht : (lookT decls (bound + bindsAt k j) deep k' n' l != 0) = true) :
    lookT decls (bound + bindsAt k j) deep k' n' l = v := by
  rw [e, lookF_node] at h
  have : lookT decls (bound + bindsAt k j) deep k' n' l ≠ 0 := by simpa using ht
  rw [if_pos this] at h
  exact h
end Tmx
