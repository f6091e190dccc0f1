/-
  A term in which nothing is wrong is small.
-/
import Derived.Test.YtcgpjihfligdbaaDoorPlain2
namespace Tmx
open Go.Deep

def wrongT (decls bound k n : Int) (l : F) : Int :=
  if lookT decls bound 1 k n l ≠ 0 then lookT decls bound 1 k n l else if 60 < size l + 1 then 4 else 0

/-- So many terms are at most in one that has so many levels. -/
def most : Nat → Nat
  | 0 => 0
  | d + 1 => 4 * most d + 1

theorem lookT_zero {decls bound deep k n : Int} {l : F} (h : lookT decls bound deep k n l = 0) : deep ≤ 24 ∧ (1 ≤ k ∧ k ≤ 18) ∧ len l = (shpL k).length ∧ (0 ≤ n ∧ n < least bound decls k) ∧ lookF decls l bound (deep + 1) k 0 = 0 := by
  unfold lookT at h
  split at h
  · omega
  · split at h
    · omega
    · split at h
      · omega
      · split at h
        · omega
        · rename_i h1 h2 h3 h4
          refine ⟨by omega, by simpa using h2, by simpa using h3, by omega, h⟩

theorem lookF_zero {decls : Int} {x y : Nat} {a : Int × Int} {l r : F} {bound deep k : Int} {i : Nat} (h : lookF decls (.node x y a l r) bound deep k i = 0) :
    lookT decls (bound + bindsAt k i) deep a.1 a.2 l = 0 ∧ lookF decls r bound deep k (i + 1) = 0 := by
  rw [lookF_node] at h
  split at h
  · rename_i h1; exact absurd h h1
  · rename_i h1
    exact ⟨by simpa using h1, h⟩

theorem lookF_size (decls : Int) : ∀ (f : F) (bound deep k : Int) (i d : Nat), deep + d = 25 → lookF decls f bound deep k i = 0 → size f ≤ len f * most d
  | .nil, _, _, _, _, _, _, _ => by simp [size]
  | .node x y a l r, bound, deep, k, i, d, hd, h => by
    obtain ⟨h1, h2⟩ := lookF_zero h
    obtain ⟨g1, g2, g3, _, g5⟩ := lookT_zero h1
    have ir := lookF_size decls r bound deep k (i + 1) d hd h2
    obtain ⟨d', rfl⟩ : ∃ d', d = d' + 1 := ⟨d - 1, by omega⟩
    have il := lookF_size decls l (bound + bindsAt k i) (deep + 1) a.1 0 d' (by omega) g5
    have h4 := shpL_len a.1
    have : len l * most d' ≤ 4 * most d' := Nat.mul_le_mul_right _ (by omega)
    rw [size, len, Nat.add_mul, most]
    rw [most] at ir
    omega

theorem most_23 : 4 * most 23 < 4611686018427387904 - 8 := by decide

theorem look_small {decls bound k n : Int} {l : F} (h : lookT decls bound 1 k n l = 0) : size l < 4611686018427387904 := by
  obtain ⟨_, _, g3, _, g5⟩ := lookT_zero h
  have := lookF_size decls l bound 2 k 0 23 (by omega) g5
  have h4 := shpL_len k
  have h5 : len l * most 23 ≤ 4 * most 23 := Nat.mul_le_mul_right _ (by omega)
  have := most_23
  omega
theorem wrong_zero {decls bound k n : Int} {l : F} (h : wrongT decls bound k n l = 0) : lookT decls bound 1 k n l = 0 ∧ size l ≤ 59 := by
  unfold wrongT at h
  split at h
  · rename_i h1; exact absurd h h1
  · rename_i h1
    split at h
    · omega
    · exact ⟨by simpa using h1, by omega⟩
end Tmx
