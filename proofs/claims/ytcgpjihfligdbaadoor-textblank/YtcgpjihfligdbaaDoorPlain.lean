/-
  Terms as forests, plainly: a list of terms is nothing, or a first term (its kind, its number, its own arguments) and those behind it. No program, no memory.
-/
import Derived.Deep.Trees
namespace Tmx
open Go.Deep

/-- A list of terms. The first two numbers of a node are idle (always 0 where one is made here). -/
abbrev F := BT (Int × Int)
/-- A first term of kind k and number n with the arguments l, and those behind it. -/
def nd (k n : Int) (l r : F) : F := .node 0 0 (k, n) l r

def len : F → Nat
  | .nil => 0
  | .node _ _ _ _ r => len r + 1
def size : F → Nat
  | .nil => 0
  | .node _ _ _ l r => size l + size r + 1
def drop : Nat → F → F
  | 0, f => f
  | _ + 1, .nil => .nil
  | i + 1, .node _ _ _ _ r => drop i r

theorem len_drop : ∀ (i : Nat) (f : F), len (drop i f) = len f - i
  | 0, f => by simp [drop]
  | i + 1, .nil => by simp [drop, len]
  | i + 1, .node _ _ _ _ r => by rw [drop, len_drop i r, len]; omega

theorem size_drop : ∀ (i : Nat) (f : F), size (drop i f) ≤ size f
  | 0, f => by simp [drop]
  | i + 1, .nil => by simp [drop]
  | i + 1, .node _ _ _ l r => by rw [drop, size]; have := size_drop i r; omega

theorem drop_succ : ∀ (i : Nat) (f : F) (b o : Nat) (a : Int × Int) (l r : F), drop i f = .node b o a l r → drop (i + 1) f = r
  | 0, f, b, o, a, l, r, h => by rw [drop] at h; subst h; simp [drop]
  | i + 1, .nil, b, o, a, l, r, h => by simp [drop] at h
  | i + 1, .node _ _ _ _ r', b, o, a, l, r, h => by rw [drop] at h; rw [drop]; exact drop_succ i r' b o a l r h

theorem drop_node : ∀ (i : Nat) (f : F), i < len f → ∃ b o a l r, drop i f = .node b o a l r
  | 0, .nil, h => by simp [len] at h
  | 0, .node b o a l r, _ => ⟨b, o, a, l, r, rfl⟩
  | i + 1, .nil, h => by simp [len] at h
  | i + 1, .node _ _ _ _ r', h => by rw [len] at h; rw [drop]; exact drop_node i r' (by omega)

theorem len_le_size : ∀ (f : F), len f ≤ size f
  | .nil => Nat.le_refl _
  | .node _ _ _ l r => by rw [len, size]; have := len_le_size r; omega

theorem drop_len : ∀ (f : F), drop (len f) f = .nil
  | .nil => rfl
  | .node _ _ _ _ r => by rw [len, drop]; exact drop_len r
theorem size_nil_of_len : ∀ (f : F), len f = 0 → f = .nil
  | .nil, _ => rfl
  | .node _ _ _ _ r, h => by simp [len] at h

/-- How many the argument number i of a term of kind k has bound. -/
def bindsAt (k i : Int) : Int :=
  if k = 3 ∨ k = 4 ∨ k = 6 ∨ k = 7 then (if i = 1 then 1 else 0)
  else if k = 17 then (if i = 0 then 1 else if i = 2 then 2 else 0) else 0

/-- The same terms. -/
def same : F → F → Bool
  | .nil, .nil => true
  | .node _ _ a l r, .node _ _ a' l' r' => a.1 == a'.1 && a.2 == a'.2 && same l l' && same r r'
  | _, _ => false

theorem same_len : ∀ (f g : F), same f g = true → len f = len g
  | .nil, .nil, _ => rfl
  | .node _ _ a l r, .node _ _ a' l' r', h => by
    simp only [same, Bool.and_eq_true] at h
    rw [len, len, same_len r r' h.2]
  | .nil, .node _ _ _ _ _, h => by simp [same] at h
  | .node _ _ _ _ _, .nil, h => by simp [same] at h

/-- What follows from there on: the terms number j agree and so on. -/
def sameFrom (j : Nat) (f g : F) : Bool := same (drop j f) (drop j g)
theorem same_step (j : Nat) (f g : F) {x y x' y' : Nat} {a a' : Int × Int} {l r l' r' : F} (h : drop j f = .node x y a l r) (h' : drop j g = .node x' y' a' l' r') :
    sameFrom j f g = ((a.1 == a'.1 && a.2 == a'.2 && same l l') && sameFrom (j + 1) f g) := by
  unfold sameFrom
  rw [drop_succ j f _ _ _ _ _ h, drop_succ j g _ _ _ _ _ h', h, h', same]

/-- The same term. -/
def sameT (k n : Int) (f : F) (k' n' : Int) (g : F) : Bool := k == k' && n == n' && same f g
end Tmx
namespace Tmx
/-- The shape of a kind, as bytes: how many each argument has bound. -/
def shapeTab : List (List UInt8) := [[], [], [], [48, 49], [48, 49], [48, 48], [48, 49], [48, 49, 48, 48], [48], [48], [], [], [], [48, 48], [], [], [48], [49, 48, 50, 48], []]
def shpL (k : Int) : List UInt8 := if 1 ≤ k ∧ k ≤ 18 then shapeTab.getD k.toNat [] else [45]
def shp (k : Int) : ByteArray := ⟨(shpL k).toArray⟩
end Tmx
