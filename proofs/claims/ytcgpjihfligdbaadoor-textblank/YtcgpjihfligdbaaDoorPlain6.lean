/-
  Words of kinds, and names, plainly.
-/
import Derived.Test.YtcgpjihfligdbaaDoorPlain2
namespace Tmx

def wordTab : List (List UInt8) := [[], [], [85], [112, 105], [102, 110], [], [115, 105, 103], [112, 97, 105, 114], [102, 115, 116], [115, 110, 100], [117, 110, 105, 116], [115, 116, 97, 114], [101, 109, 112, 116, 121], [97, 98, 115, 117, 114, 100], [110, 97, 116], [122, 101, 114, 111], [115, 117, 99], [114, 101, 99], []]
def wordL (k : Nat) : List UInt8 := wordTab.getD k []
/-- The kind of a word, of the last n kinds below 18; 0: none. -/
def kf : Nat → List UInt8 → Int
  | 0, _ => 0
  | n + 1, l => if 17 - n ≠ 5 ∧ wordL (17 - n) = l then ((17 - n : Nat) : Int) else kf n l
def kindOf (l : List UInt8) : Int := kf 15 l
theorem kf_yes {n : Nat} {l : List UInt8} {v : Int} (h : kf (n + 1) l = v) (h5 : 17 - n ≠ 5) (hw : (wordL (17 - n) == l) = true) : v = ((17 - n : Nat) : Int) := by
  rw [kf, if_pos ⟨h5, by simpa using hw⟩] at h
  exact h.symm
theorem kf_no {n : Nat} {l : List UInt8} {v : Int} (h : kf (n + 1) l = v) (hw : (wordL (17 - n) == l) = false) : kf n l = v := by
  rw [kf, if_neg (by rintro ⟨_, h2⟩; simp [h2] at hw)] at h
  exact h
theorem kf_five {n : Nat} {l : List UInt8} {v : Int} (h : kf (n + 1) l = v) (h5 : 17 - n = 5) : kf n l = v := by
  rw [kf, if_neg (by rintro ⟨h1, _⟩; exact h1 h5)] at h
  exact h

theorem kf_le : ∀ (n : Nat) (l : List UInt8), kf n l ≤ 17
  | 0, _ => by rw [kf]; omega
  | n + 1, l => by
    rw [kf]
    split
    · omega
    · exact kf_le n l

/-- All signs are small letters. -/
def lower : List UInt8 → Bool
  | [] => true
  | c :: r => 97 ≤ c && c ≤ 122 && lower r
/-- A name. -/
def nameB (l : List UInt8) : Bool := !(l == []) && decide (l.length ≤ 8) && !(l == [100, 101, 102]) && decide (kindOf l ≤ 0) && lower l
end Tmx
