/-
  Whether some variable of a term has a property, plainly.
-/
import Derived.Test.YtcgpjihfligdbaaDoorPlain4
namespace Tmx
open Go.Deep

def anyF (g : Int → Int → Bool) : F → Int → Int → Nat → Bool
  | .nil, _, _, _ => false
  | .node _ _ a l r, within, k, i =>
    (if a.1 = 1 then g a.2 (within + bindsAt k i) else anyF g l (within + bindsAt k i) a.1 0) || anyF g r within k (i + 1)
def anyT (g : Int → Int → Bool) (k n : Int) (l : F) (within : Int) : Bool := if k = 1 then g n within else anyF g l within k 0

theorem anyF_node (g : Int → Int → Bool) (x y : Nat) (a : Int × Int) (l r : F) (within k : Int) (i : Nat) :
    anyF g (.node x y a l r) within k i = (anyT g a.1 a.2 l (within + bindsAt k i) || anyF g r within k (i + 1)) := by
  rw [anyF]
  rfl
theorem anyF_no {g : Int → Int → Bool} {f : F} {j x y : Nat} {k' n' : Int} {l r : F} {within k : Int} {v : Bool} (e : drop j f = .node x y (k', n') l r) (h : anyF g (drop j f) within k j = v) (ht : anyT g k' n' l (within + bindsAt k j) = false) :
    anyF g (drop (j + 1) f) within k (j + 1) = v := by
  rw [e, anyF_node, ht, Bool.false_or] at h
  rw [drop_succ j f _ _ _ _ _ e]
  exact h
theorem anyF_yes {g : Int → Int → Bool} {f : F} {j x y : Nat} {k' n' : Int} {l r : F} {within k : Int} {v : Bool} (e : drop j f = .node x y (k', n') l r) (h : anyF g (drop j f) within k j = v) (ht : anyT g k' n' l (within + bindsAt k j) = true) : v = true := by
  rw [e, anyF_node, ht, Bool.true_or] at h
  exact h.symm
end Tmx
