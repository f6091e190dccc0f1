/-
  A term in which each variable is what a function makes of it, plainly.
-/
import Derived.Test.YtcgpjihfligdbaaDoorPlain2
namespace Tmx
open Go.Deep

/-- What becomes of a variable: of its number, and how many are bound around it. -/
abbrev Fn2 := Int → Int → Int × Int × F

def mapF (g : Fn2) : F → Int → Int → Nat → F
  | .nil, _, _, _ => .nil
  | .node _ _ a l r, within, k, i =>
    if a.1 = 1 then .node 0 0 ((g a.2 (within + bindsAt k i)).1, (g a.2 (within + bindsAt k i)).2.1) (g a.2 (within + bindsAt k i)).2.2 (mapF g r within k (i + 1))
    else .node 0 0 (a.1, a.2) (mapF g l (within + bindsAt k i) a.1 0) (mapF g r within k (i + 1))
def mapT (g : Fn2) (k n : Int) (l : F) (within : Int) : Int × Int × F := if k = 1 then g n within else (k, n, mapF g l within k 0)

theorem mapF_node (g : Fn2) (x y : Nat) (a : Int × Int) (l r : F) (within k : Int) (i : Nat) :
    mapF g (.node x y a l r) within k i = .node 0 0 ((mapT g a.1 a.2 l (within + bindsAt k i)).1, (mapT g a.1 a.2 l (within + bindsAt k i)).2.1) (mapT g a.1 a.2 l (within + bindsAt k i)).2.2 (mapF g r within k (i + 1)) := by
  rw [mapF]
  unfold mapT
  split <;> rfl

theorem len_mapF (g : Fn2) : ∀ (f : F) (within k : Int) (i : Nat), len (mapF g f within k i) = len f
  | .nil, _, _, _ => rfl
  | .node _ _ _ _ r, within, k, i => by rw [mapF_node, len, len, len_mapF g r]

theorem drop_mapF (g : Fn2) : ∀ (j : Nat) (f : F) (within k : Int) (i : Nat), drop j (mapF g f within k i) = mapF g (drop j f) within k (i + j)
  | 0, f, _, _, _ => by simp [drop]
  | j + 1, .nil, _, _, _ => by simp [drop, mapF]
  | j + 1, .node _ _ _ _ r, within, k, i => by rw [mapF_node, drop, drop, drop_mapF g j r, show i + 1 + j = i + (j + 1) by omega]

/-- The numbers of variables are neither below nought nor great. -/
def nums : F → Prop
  | .nil => True
  | .node _ _ a l r => (a.1 = 1 → 0 ≤ a.2 ∧ a.2 ≤ 1152921504606846976) ∧ nums l ∧ nums r

theorem nums_drop : ∀ (j : Nat) (f : F), nums f → nums (drop j f)
  | 0, _, h => by simpa [drop] using h
  | j + 1, .nil, h => by simp [drop, nums]
  | j + 1, .node _ _ _ _ r, h => by rw [drop]; exact nums_drop j r h.2.2
end Tmx
