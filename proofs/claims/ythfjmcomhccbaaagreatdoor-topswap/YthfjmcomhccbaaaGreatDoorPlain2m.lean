/-
  What is wrong with a term, plainly, as the document tells it.
-/
/-
  Words of kinds, and names, plainly.
-/
/-
  Lists of names in memory; what an atom is.
-/
/-
  A term in which nothing is wrong is small.
-/
/-
  Terms and declarations as bytes, plainly: what is written, and what is read.
-/
/-
  What a text is, plainly, as the document's reader tells it: of every text.
-/
import Derived.Test.YthfjmcomhccbaaaGreatDoorLaidGm
import Derived.Test.YthfjmcomhccbaaaGreatDoorMem2m
import Derived.Lib.AtoiAll
import Derived.Lib.ItoaNum
namespace Tmx
open Go.Deep

/-- A number of a term of kind k must be below that. -/
def least (bound decls k : Int) : Int := if k = 1 then bound else if k = 2 then 4 else if k = 18 then decls else 1

/-- The first error of the terms f, the arguments from number i on of a term of kind k. -/
def lookF (decls : Int) : F → Int → Int → Int → Nat → Int
  | .nil, _, _, _, _ => 0
  | .node _ _ a l r, bound, deep, k, i =>
    if (if 24 < deep then 9 else if ¬ (1 ≤ a.1 ∧ a.1 ≤ 18) then 1 else if len l ≠ (shpL a.1).length then 5 else if a.2 < 0 ∨ least (bound + bindsAt k i) decls a.1 ≤ a.2 then 3 else lookF decls l (bound + bindsAt k i) (deep + 1) a.1 0) ≠ 0
    then (if 24 < deep then 9 else if ¬ (1 ≤ a.1 ∧ a.1 ≤ 18) then 1 else if len l ≠ (shpL a.1).length then 5 else if a.2 < 0 ∨ least (bound + bindsAt k i) decls a.1 ≤ a.2 then 3 else lookF decls l (bound + bindsAt k i) (deep + 1) a.1 0)
    else lookF decls r bound deep k (i + 1)
/-- The first error of one term. -/
def lookT (decls bound deep k n : Int) (l : F) : Int :=
  if 24 < deep then 9 else if ¬ (1 ≤ k ∧ k ≤ 18) then 1 else if len l ≠ (shpL k).length then 5 else if n < 0 ∨ least bound decls k ≤ n then 3 else lookF decls l bound (deep + 1) k 0

theorem lookF_node (decls : Int) (x y : Nat) (a : Int × Int) (l r : F) (bound deep k : Int) (i : Nat) :
    lookF decls (.node x y a l r) bound deep k i = if lookT decls (bound + bindsAt k i) deep a.1 a.2 l ≠ 0 then lookT decls (bound + bindsAt k i) deep a.1 a.2 l else lookF decls r bound deep k (i + 1) := by
  rw [lookF]
  rfl

theorem tab_byte : ∀ (K : Fin 19) (i : Fin 4), (h : i.val < (shapeTab.getD K.val []).length) → (((shapeTab.getD K.val [])[i.val]).toNat : Int) = 48 + bindsAt (K.val : Int) (i.val : Int) := by decide
theorem tab_len : ∀ (K : Fin 19), (shapeTab.getD K.val []).length ≤ 4 := by decide
theorem tab_none : ∀ (K : Fin 19), shapeTab.getD K.val [] ≠ [45] := by decide
/-- The byte number i of a shape. -/
theorem shp_byte (k : Int) (h : 1 ≤ k ∧ k ≤ 18) (i : Nat) (hi : i < (shpL k).length) : (((shpL k)[i]).toNat : Int) = 48 + bindsAt k i := by
  obtain ⟨K, rfl⟩ := Int.eq_ofNat_of_zero_le (show 0 ≤ k by omega)
  have e : shpL (K : Int) = shapeTab.getD K [] := by unfold shpL; rw [if_pos h, Int.toNat_natCast]
  have h4 := tab_len ⟨K, by omega⟩
  simp only [e] at hi ⊢
  exact tab_byte ⟨K, by omega⟩ ⟨i, by simp only at h4; omega⟩ hi
theorem bindsAt_bd (k i : Int) : 0 ≤ bindsAt k i ∧ bindsAt k i ≤ 2 := by
  unfold bindsAt
  repeat' split
  all_goals omega
theorem shpL_len (k : Int) : (shpL k).length ≤ 4 := by
  by_cases h : 1 ≤ k ∧ k ≤ 18
  · obtain ⟨K, rfl⟩ := Int.eq_ofNat_of_zero_le (show 0 ≤ k by omega)
    unfold shpL
    rw [if_pos h, Int.toNat_natCast]
    exact tab_len ⟨K, by omega⟩
  · unfold shpL
    rw [if_neg h]
    decide
theorem shp_none (k : Int) (h : 1 ≤ k ∧ k ≤ 18) : shpL k ≠ [45] := by
  obtain ⟨K, rfl⟩ := Int.eq_ofNat_of_zero_le (show 0 ≤ k by omega)
  unfold shpL
  rw [if_pos h, Int.toNat_natCast]
  exact tab_none ⟨K, by omega⟩

theorem lookF_yes {decls : Int} {f : F} {j : Nat} {x y : Nat} {k' n' : Int} {l r : F} {bound deep k v : Int} (e : drop j f = .node x y (k', n') l r) (h : lookF decls (drop j f) bound deep k j = v) (ht : (lookT decls (bound + bindsAt k j) deep k' n' l != 0) = false) :
    lookF decls (drop (j + 1) f) bound deep k (j + 1) = v := by
  rw [e, lookF_node] at h
  rw [drop_succ j f _ _ _ _ _ e]
  have : lookT decls (bound + bindsAt k j) deep k' n' l = 0 := by simpa using ht
  simp only [this] at h
  simpa using h
theorem lookF_no {decls : Int} {f : F} {j : Nat} {x y : Nat} {k' n' : Int} {l r : F} {bound deep k v : Int} (e : drop j f = .node x y (k', n') l r) (h : lookF decls (drop j f) bound deep k j = v) (ht : (lookT decls (bound + bindsAt k j) deep k' n' l != 0) = true) :
    lookT decls (bound + bindsAt k j) deep k' n' l = v := by
  rw [e, lookF_node] at h
  have : lookT decls (bound + bindsAt k j) deep k' n' l ≠ 0 := by simpa using ht
  rw [if_pos this] at h
  exact h
end Tmx

namespace Tmx

def wordTab : List (List UInt8) := [[], [], [85], [112, 105], [102, 110], [], [115, 105, 103], [112, 97, 105, 114], [102, 115, 116], [115, 110, 100], [117, 110, 105, 116], [115, 116, 97, 114], [101, 109, 112, 116, 121], [97, 98, 115, 117, 114, 100], [110, 97, 116], [122, 101, 114, 111], [115, 117, 99], [114, 101, 99], []]
def wordL (k : Nat) : List UInt8 := wordTab.getD k []
/-- The kind of a word, of the last n kinds below 18; 0: none. -/
def kf : Nat → List UInt8 → Int
  | 0, _ => 0
  | n + 1, l => if 17 - n ≠ 5 ∧ wordL (17 - n) = l then ((17 - n : Nat) : Int) else kf n l
def kindOf (l : List UInt8) : Int := kf 15 l
theorem kf_yes {n : Nat} {l : List UInt8} {v : Int} (h : kf (n + 1) l = v) (h5 : 17 - n ≠ 5) (hw : (wordL (17 - n) == l) = true) : v = ((17 - n : Nat) : Int) := by
  rw [kf, if_pos ⟨h5, by simpa using hw⟩] at h
  exact h.symm
theorem kf_no {n : Nat} {l : List UInt8} {v : Int} (h : kf (n + 1) l = v) (hw : (wordL (17 - n) == l) = false) : kf n l = v := by
  rw [kf, if_neg (by rintro ⟨_, h2⟩; simp [h2] at hw)] at h
  exact h
theorem kf_five {n : Nat} {l : List UInt8} {v : Int} (h : kf (n + 1) l = v) (h5 : 17 - n = 5) : kf n l = v := by
  rw [kf, if_neg (by rintro ⟨h1, _⟩; exact h1 h5)] at h
  exact h

theorem kf_le : ∀ (n : Nat) (l : List UInt8), kf n l ≤ 17
  | 0, _ => by rw [kf]; omega
  | n + 1, l => by
    rw [kf]
    split
    · omega
    · exact kf_le n l

/-- All signs are small letters. -/
def lower : List UInt8 → Bool
  | [] => true
  | c :: r => 97 ≤ c && c ≤ 122 && lower r
/-- A name. -/
def nameB (l : List UInt8) : Bool := !(l == []) && decide (l.length ≤ 8) && !(l == [100, 101, 102]) && decide (kindOf l ≤ 0) && lower l
end Tmx

namespace Tmx
open Go Go.Deep Go.RowKit

/-- The slice that begins at p holds the names ns in w, in another block than r. -/
def Strs (r : Nat) (w : World) (p : Option Addr) (ns : List (List UInt8)) : Prop :=
  ∃ b o, (0 < ns.length → p = some ⟨b, o, none⟩ ∧ b ≠ r) ∧ ∀ i, i < ns.length → w.cell? ⟨b, o + i, none⟩ = some (.string ⟨(ns.getD i []).toArray⟩)
theorem Strs.nil (r : Nat) (w : World) (p : Option Addr) : Strs r w p [] := ⟨0, 0, fun h => by simp at h, fun i h => by simp at h⟩
theorem Strs.kept {r : Nat} {w w' : World} {p : Option Addr} {ns : List (List UInt8)} (h : Strs r w p ns) (hk : Kept r w w') : Strs r w' p ns := by
  obtain ⟨b, o, h1, h2⟩ := h
  exact ⟨b, o, h1, fun i hi => hk.cell (h1 (by omega)).2 (h2 i hi)⟩
theorem Strs.at {r : Nat} {w : World} {p : Option Addr} {ns : List (List UInt8)} (h : Strs r w p ns) {i : Nat} (hi : i < ns.length) : ∃ b o, p = some ⟨b, o, none⟩ ∧ b ≠ r ∧ w.cell? ⟨b, o + i, none⟩ = some (.string ⟨(ns.getD i []).toArray⟩) := by
  obtain ⟨b, o, h1, h2⟩ := h
  exact ⟨b, o, (h1 (by omega)).1, (h1 (by omega)).2, h2 i hi⟩

/-- The last of the first n names that is that one. -/
def fl (ns : List (List UInt8)) (wd : List UInt8) : Nat → Option Nat
  | 0 => none
  | n + 1 => if ns.getD n [] = wd then some n else fl ns wd n
theorem fl_yes {ns : List (List UInt8)} {wd : List UInt8} {n : Nat} {v : Option Nat} (h : fl ns wd (n + 1) = v) (hw : (ns.getD n [] == wd) = true) : v = some n := by
  rw [fl, if_pos (by simpa using hw)] at h
  exact h.symm
theorem fl_no {ns : List (List UInt8)} {wd : List UInt8} {n : Nat} {v : Option Nat} (h : fl ns wd (n + 1) = v) (hw : (ns.getD n [] == wd) = false) : fl ns wd n = v := by
  rw [fl, if_neg (by simpa using hw)] at h
  exact h

/-- What an atom is, and the error behind it: of words that do not begin with U. -/
def atomD (ds : List (List UInt8)) (wd : List UInt8) (E : Int) : (Int × Int × F) × Int :=
  match fl ds wd ds.length with
  | some i => ((18, (i : Int), .nil), E)
  | none => ((0, 0, .nil), failE E 6)
def atomV (ns ds : List (List UInt8)) (wd : List UInt8) (E : Int) : (Int × Int × F) × Int :=
  match fl ns wd ns.length with
  | some i => ((1, (ns.length : Int) - 1 - i, .nil), E)
  | none => atomD ds wd E
def atomN (ns ds : List (List UInt8)) (wd : List UInt8) (E : Int) : (Int × Int × F) × Int :=
  if 0 < kindOf wd then (if shpL (kindOf wd) = [] then ((kindOf wd, 0, .nil), E) else ((0, 0, .nil), failE E 2))
  else if nameB wd = false then ((0, 0, .nil), failE E 7) else atomV ns ds wd E
/-- What a word is that begins with U. -/
def atomU (wd : List UInt8) (E : Int) : (Int × Int × F) × Int :=
  match Lib.atoiAll (wd.drop 1) with
  | .ok n => if Lib.itoa n = wd.drop 1 then (if n < 0 ∨ 3 < n then ((0, 0, .nil), failE E 3) else ((2, n, .nil), E)) else ((0, 0, .nil), failE E 2)
  | _ => ((0, 0, .nil), failE E 2)
def atomS (ns ds : List (List UInt8)) (wd : List UInt8) (E : Int) : (Int × Int × F) × Int := if wd.head? = some 85 then atomU wd E else atomN ns ds wd E
end Tmx

namespace Tmx
open Go.Deep

def wrongT (decls bound k n : Int) (l : F) : Int :=
  if lookT decls bound 1 k n l ≠ 0 then lookT decls bound 1 k n l else if 60 < size l + 1 then 4 else 0

/-- So many terms are at most in one that has so many levels. -/
def most : Nat → Nat
  | 0 => 0
  | d + 1 => 4 * most d + 1

theorem lookT_zero {decls bound deep k n : Int} {l : F} (h : lookT decls bound deep k n l = 0) : deep ≤ 24 ∧ (1 ≤ k ∧ k ≤ 18) ∧ len l = (shpL k).length ∧ (0 ≤ n ∧ n < least bound decls k) ∧ lookF decls l bound (deep + 1) k 0 = 0 := by
  unfold lookT at h
  split at h
  · omega
  · split at h
    · omega
    · split at h
      · omega
      · split at h
        · omega
        · rename_i h1 h2 h3 h4
          refine ⟨by omega, by simpa using h2, by simpa using h3, by omega, h⟩

theorem lookF_zero {decls : Int} {x y : Nat} {a : Int × Int} {l r : F} {bound deep k : Int} {i : Nat} (h : lookF decls (.node x y a l r) bound deep k i = 0) :
    lookT decls (bound + bindsAt k i) deep a.1 a.2 l = 0 ∧ lookF decls r bound deep k (i + 1) = 0 := by
  rw [lookF_node] at h
  split at h
  · rename_i h1; exact absurd h h1
  · rename_i h1
    exact ⟨by simpa using h1, h⟩

theorem lookF_size (decls : Int) : ∀ (f : F) (bound deep k : Int) (i d : Nat), deep + d = 25 → lookF decls f bound deep k i = 0 → size f ≤ len f * most d
  | .nil, _, _, _, _, _, _, _ => by simp [size]
  | .node x y a l r, bound, deep, k, i, d, hd, h => by
    obtain ⟨h1, h2⟩ := lookF_zero h
    obtain ⟨g1, g2, g3, _, g5⟩ := lookT_zero h1
    have ir := lookF_size decls r bound deep k (i + 1) d hd h2
    obtain ⟨d', rfl⟩ : ∃ d', d = d' + 1 := ⟨d - 1, by omega⟩
    have il := lookF_size decls l (bound + bindsAt k i) (deep + 1) a.1 0 d' (by omega) g5
    have h4 := shpL_len a.1
    have : len l * most d' ≤ 4 * most d' := Nat.mul_le_mul_right _ (by omega)
    rw [size, len, Nat.add_mul, most]
    rw [most] at ir
    omega

theorem most_23 : 4 * most 23 < 4611686018427387904 - 8 := by decide

theorem look_small {decls bound k n : Int} {l : F} (h : lookT decls bound 1 k n l = 0) : size l < 4611686018427387904 := by
  obtain ⟨_, _, g3, _, g5⟩ := lookT_zero h
  have := lookF_size decls l bound 2 k 0 23 (by omega) g5
  have h4 := shpL_len k
  have h5 : len l * most 23 ≤ 4 * most 23 := Nat.mul_le_mul_right _ (by omega)
  have := most_23
  omega
theorem wrong_zero {decls bound k n : Int} {l : F} (h : wrongT decls bound k n l = 0) : lookT decls bound 1 k n l = 0 ∧ size l ≤ 59 := by
  unfold wrongT at h
  split at h
  · rename_i h1; exact absurd h h1
  · rename_i h1
    split at h
    · omega
    · exact ⟨by simpa using h1, by omega⟩
end Tmx

namespace Tmx
open Go.Deep

/-- One term more behind the others. -/
def snoc : F → Int × Int × F → F
  | .nil, x => .node 0 0 (x.1, x.2.1) x.2.2 .nil
  | .node b o a l r, x => .node b o a l (snoc r x)
theorem len_snoc : ∀ (f : F) (x : Int × Int × F), len (snoc f x) = len f + 1
  | .nil, _ => rfl
  | .node _ _ _ _ r, x => by rw [snoc, len, len_snoc r x, len]

/-- A number as a byte. -/
def b8 (x : Int) : UInt8 := UInt8.ofNat (x % 256).toNat
theorem b8_toNat (x : Int) : ((b8 x).toNat : Int) = x % 256 := by
  unfold b8
  rw [UInt8.toNat_ofNat']
  omega
theorem b8_of (x : Int) (h : 0 ≤ x) (h' : x < 256) : ((b8 x).toNat : Int) = x := by
  rw [b8_toNat]
  omega
theorem b8_byte (c : UInt8) : b8 (c.toNat : Int) = c := by
  have h := b8_toNat (c.toNat : Int)
  have hc := c.toNat_lt
  apply UInt8.toNat_inj.1
  omega

/-- Kinds whose number is written. -/
def numb (k : Int) : Bool := (k == 1 || k == 2) || k == 18
def headB (k n : Int) : List UInt8 := b8 k :: (if numb k = true then [b8 n] else [])
def bytesF : F → List UInt8
  | .nil => []
  | .node _ _ a l r => (headB a.1 a.2 ++ bytesF l) ++ bytesF r
/-- A term's bytes. -/
def bytesT (k n : Int) (f : F) : List UInt8 := headB k n ++ bytesF f
theorem bytesF_node (x y : Nat) (a : Int × Int) (l r : F) : bytesF (.node x y a l r) = bytesT a.1 a.2 l ++ bytesF r := rfl
theorem bytesF_snoc : ∀ (f : F) (x : Int × Int × F), bytesF (snoc f x) = bytesF f ++ bytesT x.1 x.2.1 x.2.2
  | .nil, x => by simp [snoc, bytesF, bytesT]
  | .node _ _ a l r, x => by rw [snoc, bytesF_node, bytesF_node, bytesF_snoc r x, List.append_assoc]
theorem headB_len (k n : Int) : (headB k n).length ≤ 2 := by
  unfold headB
  split <;> simp
theorem bytesF_len : ∀ (f : F), (bytesF f).length ≤ 2 * size f
  | .nil => by simp [bytesF, size]
  | .node _ _ a l r => by
    have h1 := headB_len a.1 a.2
    have h2 := bytesF_len l
    have h3 := bytesF_len r
    rw [bytesF_node, bytesT, size, List.length_append, List.length_append]
    omega
theorem bytesT_len (k n : Int) (f : F) : (bytesT k n f).length ≤ 2 * size f + 2 := by
  have h1 := headB_len k n
  have h2 := bytesF_len f
  rw [bytesT, List.length_append]
  omega

abbrev GotT := Except Int ((Int × Int × F) × List UInt8)
/-- So many terms that bytes begin with, behind others. -/
def argsG (g : List UInt8 → GotT) : Nat → F → List UInt8 → Except Int (F × List UInt8)
  | 0, A, l => .ok (A, l)
  | m + 1, A, l => match g l with
    | .error e => .error e
    | .ok xr => argsG g m (snoc A xr.1) xr.2
/-- A term of kind k and number n, of the arguments that bytes begin with. -/
def finR (k n : Int) : Except Int (F × List UInt8) → GotT
  | .error e => .error e
  | .ok ar => .ok ((k, n, ar.1), ar.2)
def finG (g : List UInt8 → GotT) (m : Nat) (k n : Int) (l : List UInt8) : GotT := finR k n (argsG g m .nil l)
/-- The same, of the number that stands first. -/
def numG (g : List UInt8 → GotT) (m : Nat) (k : Int) : List UInt8 → GotT
  | [] => .error 8
  | n :: r => finG g m k n.toNat r
/-- The term that bytes begin with, so many levels at most, and what is behind. -/
def getT : Nat → List UInt8 → GotT
  | 0, _ => .error 9
  | _ + 1, [] => .error 8
  | d + 1, c :: r =>
    if 1 ≤ (c.toNat : Int) ∧ (c.toNat : Int) ≤ 18 then
      (if numb c.toNat = true then numG (getT d) (shpL c.toNat).length c.toNat r
      else finG (getT d) (shpL c.toNat).length c.toNat 0 r)
    else .error 1

abbrev GotD := Except Int (List UInt8 × (Int × Int × F) × (Int × Int × F))
/-- The declaration that bytes are. -/
def getD : List UInt8 → GotD
  | [] => .error 8
  | c :: r => if r.length < c.toNat then .error 8 else
    match getT 24 (r.drop c.toNat) with
    | .error e => .error e
    | .ok x => match getT 24 x.2 with
      | .error e => .error e
      | .ok y => if 0 < y.2.length then .error 2 else .ok (r.take c.toNat, x.1, y.1)
/-- A declaration's bytes. -/
def declB (nm : List UInt8) (x y : Int × Int × F) : List UInt8 := ((b8 nm.length :: nm) ++ bytesT x.1 x.2.1 x.2.2) ++ bytesT y.1 y.2.1 y.2.2

/-! What is read was written. -/
theorem argsG_back {g : List UInt8 → GotT} (hg : ∀ l x r, g l = .ok (x, r) → l = bytesT x.1 x.2.1 x.2.2 ++ r) : ∀ (m : Nat) (A : F) (l : List UInt8) (B : F) (r : List UInt8), argsG g m A l = .ok (B, r) → ∃ bs, l = bs ++ r ∧ bytesF B = bytesF A ++ bs
  | 0, A, l, B, r, h => by
    simp only [argsG, Except.ok.injEq, Prod.mk.injEq] at h
    obtain ⟨rfl, rfl⟩ := h
    exact ⟨[], rfl, by simp⟩
  | m + 1, A, l, B, r, h => by
    rw [argsG] at h
    cases e : g l with
    | error e' => rw [e] at h; simp at h
    | ok xr =>
      rw [e] at h
      obtain ⟨bs, h1, h2⟩ := argsG_back hg m _ _ _ _ h
      refine ⟨bytesT xr.1.1 xr.1.2.1 xr.1.2.2 ++ bs, ?_, ?_⟩
      · rw [hg l xr.1 xr.2 e, h1, List.append_assoc]
      · rw [h2, bytesF_snoc, List.append_assoc]
theorem finG_back {g : List UInt8 → GotT} (hg : ∀ l x r, g l = .ok (x, r) → l = bytesT x.1 x.2.1 x.2.2 ++ r) {m : Nat} {k n : Int} {l : List UInt8} {x : Int × Int × F} {r : List UInt8} (h : finG g m k n l = .ok (x, r)) :
    x.1 = k ∧ x.2.1 = n ∧ l = bytesF x.2.2 ++ r := by
  unfold finG finR at h
  cases e : argsG g m .nil l with
  | error e' => rw [e] at h; simp at h
  | ok ar =>
    rw [e] at h
    simp only [Except.ok.injEq, Prod.mk.injEq] at h
    obtain ⟨rfl, rfl⟩ := h
    obtain ⟨bs, h1, h2⟩ := argsG_back hg m _ _ _ _ e
    refine ⟨rfl, rfl, ?_⟩
    rw [h1, h2]
    simp [bytesF]
theorem getT_back : ∀ (d : Nat) (l : List UInt8) (x : Int × Int × F) (r : List UInt8), getT d l = .ok (x, r) → l = bytesT x.1 x.2.1 x.2.2 ++ r
  | 0, l, x, r, h => by simp [getT] at h
  | d + 1, [], x, r, h => by simp [getT] at h
  | d + 1, c :: l, x, r, h => by
    rw [getT] at h
    split at h
    · rename_i hc
      split at h
      · rename_i hn
        cases l with
        | nil => simp [numG] at h
        | cons n l' =>
          rw [numG] at h
          obtain ⟨h1, h2, h3⟩ := finG_back (getT_back d) h
          rw [bytesT, h1, h2, headB, if_pos hn, b8_byte, b8_byte, h3]
          simp
      · rename_i hn
        obtain ⟨h1, h2, h3⟩ := finG_back (getT_back d) h
        rw [bytesT, h1, h2, headB, if_neg hn, b8_byte, h3]
        simp
    · simp at h
theorem getD_back {l nm : List UInt8} {x y : Int × Int × F} (h : getD l = .ok (nm, x, y)) : l = declB nm x y := by
  cases l with
  | nil => simp [getD] at h
  | cons c r =>
    rw [getD] at h
    split at h
    · simp at h
    · rename_i hlen
      cases e1 : getT 24 (r.drop c.toNat) with
      | error e' => rw [e1] at h; simp at h
      | ok x1 =>
        rw [e1] at h
        simp only at h
        cases e2 : getT 24 x1.2 with
        | error e' => rw [e2] at h; simp at h
        | ok y1 =>
          rw [e2] at h
          simp only at h
          split at h
          · simp at h
          · rename_i h0
            simp only [Except.ok.injEq, Prod.mk.injEq] at h
            obtain ⟨rfl, rfl, rfl⟩ := h
            have g1 := getT_back 24 _ x1.1 x1.2 e1
            have g2 := getT_back 24 _ y1.1 y1.2 e2
            have g3 : y1.2 = [] := List.eq_nil_of_length_eq_zero (by omega)
            rw [g3, List.append_nil] at g2
            unfold declB
            have hl : (r.take c.toNat).length = c.toNat := by rw [List.length_take]; omega
            rw [hl, b8_byte, ← g2, List.append_assoc, ← g1]
            simp

/-! What is written is read. -/
/-- The same terms, all idle numbers nought. -/
def zed : F → F
  | .nil => .nil
  | .node _ _ a l r => .node 0 0 a (zed l) (zed r)
theorem same_zed : ∀ (f : F), same f (zed f) = true
  | .nil => rfl
  | .node _ _ a l r => by simp [zed, same, same_zed l, same_zed r]
def app : F → F → F
  | .nil, g => g
  | .node b o a l r, g => .node b o a l (app r g)
theorem app_snoc : ∀ (A : F) (x : Int × Int × F) (g : F), app (snoc A x) g = app A (.node 0 0 (x.1, x.2.1) x.2.2 g)
  | .nil, _, _ => rfl
  | .node _ _ _ _ r, x, g => by rw [snoc, app, app, app_snoc r x g]
theorem app_nil : ∀ (A : F), app A .nil = A
  | .nil => rfl
  | .node _ _ _ _ r => by rw [app, app_nil r]

theorem tab_zero : ∀ (K : Fin 19), numb (K.val : Int) = false → least 300 300 (K.val : Int) = 1 := by decide
theorem least_plain (bound decls k : Int) (hn : numb k = false) : least bound decls k = 1 := by
  unfold numb at hn
  simp only [Bool.or_eq_false_iff, beq_eq_false_iff_ne, ne_eq] at hn
  unfold least
  rw [if_neg hn.1.1, if_neg hn.1.2, if_neg hn.2]
theorem least_le (bound decls k : Int) (hb' : bound ≤ 256) (hd : decls ≤ 256) : least bound decls k ≤ 256 := by
  unfold least
  repeat' split
  all_goals omega

/-- One level: of a right term, whose arguments are read again by so many levels. -/
theorem getT_level {d : Nat} {decls bound deep k n : Int} {f : F} (h : lookT decls bound deep k n f = 0) (hb' : bound ≤ 256) (hd : decls ≤ 256)
    (ih : ∀ r, argsG (getT d) (len f) .nil (bytesF f ++ r) = .ok (zed f, r)) (r : List UInt8) : getT (d + 1) (bytesT k n f ++ r) = .ok ((k, n, zed f), r) := by
  obtain ⟨_, ⟨g1, g2⟩, g3, ⟨g4, g5⟩, _⟩ := lookT_zero h
  have hl := least_le bound decls k hb' hd
  have ek : ((b8 k).toNat : Int) = k := b8_of k (by omega) (by omega)
  have en : ((b8 n).toNat : Int) = n := b8_of n g4 (by omega)
  have hfin : ∀ m : Int, finG (getT d) (shpL k).length k m (bytesF f ++ r) = .ok ((k, m, zed f), r) := by
    intro m
    unfold finG
    rw [← g3, ih r]
    rfl
  unfold bytesT headB
  by_cases hn : numb k = true
  · rw [if_pos hn]
    simp only [List.cons_append, List.nil_append, getT]
    rw [ek, if_pos ⟨g1, g2⟩, if_pos hn, numG, en]
    exact hfin n
  · rw [if_neg hn]
    simp only [List.cons_append, List.nil_append, getT]
    rw [ek, if_pos ⟨g1, g2⟩, if_neg hn]
    have : n = 0 := by
      have := least_plain bound decls k (by simpa using hn)
      omega
    rw [this]
    exact hfin 0
theorem argsG_there (decls : Int) (hd : decls ≤ 256) : ∀ (f : F) (bound deep k : Int) (i d : Nat), deep + d = 25 → bound + 2 * d ≤ 250 → lookF decls f bound deep k i = 0 → ∀ (A : F) (r : List UInt8), argsG (getT d) (len f) A (bytesF f ++ r) = .ok (app A (zed f), r)
  | .nil, _, _, _, _, _, _, _, _, A, r => by simp [len, bytesF, argsG, zed, app_nil]
  | .node x y a l rr, bound, deep, k, i, d, hdd, hb', h, A, r => by
    obtain ⟨h1, h2⟩ := lookF_zero h
    obtain ⟨g1, g2, g3, _, g5⟩ := lookT_zero h1
    obtain ⟨d', rfl⟩ : ∃ d', d = d' + 1 := ⟨d - 1, by omega⟩
    have hbd := bindsAt_bd k i
    have il := argsG_there decls hd l (bound + bindsAt k i) (deep + 1) a.1 0 d' (by omega) (by omega) g5 .nil
    have ir := argsG_there decls hd rr bound deep k (i + 1) (d' + 1) hdd hb' h2 (snoc A (a.1, a.2, zed l)) r
    have lv := getT_level (d := d') h1 (by omega) hd il (bytesF rr ++ r)
    rw [len, bytesF_node, List.append_assoc, argsG, lv]
    simp only
    rw [ir, app_snoc]
    rfl
theorem getT_there {k n : Int} {f : F} (h : wrongT 200 200 k n f = 0) (r : List UInt8) : getT 24 (bytesT k n f ++ r) = .ok ((k, n, zed f), r) := by
  obtain ⟨h1, _⟩ := wrong_zero h
  obtain ⟨_, _, _, _, g5⟩ := lookT_zero h1
  exact getT_level h1 (by omega) (by omega) (argsG_there 200 (by omega) f 200 2 k 0 23 (by omega) (by omega) g5 .nil) r
theorem getD_there {nm : List UInt8} {x y : Int × Int × F} (hn : nm.length < 256) (hx : wrongT 200 200 x.1 x.2.1 x.2.2 = 0) (hy : wrongT 200 200 y.1 y.2.1 y.2.2 = 0) :
    getD (declB nm x y) = .ok (nm, (x.1, x.2.1, zed x.2.2), (y.1, y.2.1, zed y.2.2)) := by
  have e : ((b8 nm.length).toNat : Int) = nm.length := b8_of _ (by omega) (by omega)
  have e' : (b8 nm.length).toNat = nm.length := by omega
  unfold declB
  simp only [List.cons_append, getD, e', List.append_assoc]
  rw [if_neg (by simp), List.drop_left, getT_there hx]
  simp only
  have := getT_there hy []
  rw [List.append_nil] at this
  rw [this]
  simp
end Tmx

namespace Tmx
open Go.Deep

/-- So many names are taken. -/
def bindS : Nat → List (List UInt8) → List UInt8 → Int → List (List UInt8) × List UInt8 × Int
  | 0, ns, l, E => (ns, l, E)
  | m + 1, ns, l, E => bindS m (ns ++ [peekW l]) (restW l) (if nameB (peekW l) = false then failE (wE l E) 7 else wE l E)

/-- What stands for a term: of the names, what is left of the text, and the error: the term, what is left, the error. -/
abbrev TermF := List (List UInt8) → List UInt8 → Int → (Int × Int × F) × List UInt8 × Int

/-- The arguments of a shape, behind others. -/
def argsS (T : TermF) : List UInt8 → F → List (List UInt8) → List UInt8 → Int → F × List UInt8 × Int
  | [], A, _, l, E => (A, l, E)
  | c :: sh, A, ns, l, E =>
    argsS T sh (snoc A (T (bindS (c.toNat - 48) ns l E).1 (bindS (c.toNat - 48) ns l E).2.1 (if 8 < (bindS (c.toNat - 48) ns l E).1.length then failE (bindS (c.toNat - 48) ns l E).2.2 5 else (bindS (c.toNat - 48) ns l E).2.2)).1) ns
      (T (bindS (c.toNat - 48) ns l E).1 (bindS (c.toNat - 48) ns l E).2.1 (if 8 < (bindS (c.toNat - 48) ns l E).1.length then failE (bindS (c.toNat - 48) ns l E).2.2 5 else (bindS (c.toNat - 48) ns l E).2.2)).2.1
      (T (bindS (c.toNat - 48) ns l E).1 (bindS (c.toNat - 48) ns l E).2.1 (if 8 < (bindS (c.toNat - 48) ns l E).1.length then failE (bindS (c.toNat - 48) ns l E).2.2 5 else (bindS (c.toNat - 48) ns l E).2.2)).2.2

/-- The kind behind a bracket. -/
def headK (l : List UInt8) : Int := if 0 < kindOf (peekW l) ∧ shpL (kindOf (peekW l)) ≠ [] then kindOf (peekW l) else 5
def headL (l : List UInt8) : List UInt8 := if 0 < kindOf (peekW l) ∧ shpL (kindOf (peekW l)) ≠ [] then restW (skip l) else skip l
def headE (l : List UInt8) (E : Int) : Int := if 0 < kindOf (peekW l) ∧ shpL (kindOf (peekW l)) ≠ [] then wE (skip l) E else E
/-- What stands behind the arguments. -/
def tailE (l : List UInt8) (E : Int) : Int := if peekW l = [41] then wE l E else failE (wE l E) 2

/-- A term of a text, so many levels at most. -/
def termS (ds : List (List UInt8)) : Nat → TermF
  | 0 => fun _ l E => ((0, 0, .nil), l, failE E 9)
  | n + 1 => fun ns l E =>
    if E ≠ 0 then ((0, 0, .nil), l, E)
    else if peekW l = [40] then
      ((headK (restW l), 0, (argsS (termS ds n) (shpL (headK (restW l))) .nil ns (headL (restW l)) (headE (restW l) (wE l E))).1),
        restW (argsS (termS ds n) (shpL (headK (restW l))) .nil ns (headL (restW l)) (headE (restW l) (wE l E))).2.1,
        tailE (argsS (termS ds n) (shpL (headK (restW l))) .nil ns (headL (restW l)) (headE (restW l) (wE l E))).2.1 (argsS (termS ds n) (shpL (headK (restW l))) .nil ns (headL (restW l)) (headE (restW l) (wE l E))).2.2)
    else ((atomS ns ds (peekW l) (wE l E)).1, restW l, (atomS ns ds (peekW l) (wE l E)).2)

/-- No more than so many. -/
def plainT (l : List UInt8) : Prop := True ∧ l.length ≤ 1500

theorem skip_sub : ∀ l, ∀ c ∈ skip l, c ∈ l
  | [], c, h => by simp [skip] at h
  | d :: r, c, h => by
    rw [skip] at h
    split at h
    · exact List.mem_cons_of_mem _ (skip_sub r c h)
    · exact h
theorem plainT.skip {l : List UInt8} (h : plainT l) : plainT (skip l) := ⟨trivial, Nat.le_trans (skip_len l) h.2⟩
theorem plainT.rest {l : List UInt8} (h : plainT l) : plainT (restW l) := by
  refine ⟨trivial, ?_⟩
  unfold restW
  rw [List.length_drop]
  have := h.skip.2
  omega
theorem plainT.peek_len {l : List UInt8} (h : plainT l) : (peekW l).length ≤ 1500 := by
  unfold peekW
  rw [List.length_take]
  have := h.skip.2
  omega
theorem bindS_plain : ∀ (m : Nat) (ns : List (List UInt8)) (l : List UInt8) (E : Int), plainT l → plainT (bindS m ns l E).2.1
  | 0, _, _, _, h => h
  | m + 1, ns, l, E, h => by rw [bindS]; exact bindS_plain m _ _ _ h.rest
theorem bindS_len : ∀ (m : Nat) (ns : List (List UInt8)) (l : List UInt8) (E : Int), (bindS m ns l E).1.length = ns.length + m
  | 0, _, _, _ => rfl
  | m + 1, ns, l, E => by rw [bindS, bindS_len m]; simp; omega
theorem argsS_plain (T : TermF) (hT : ∀ ns l E, plainT l → plainT (T ns l E).2.1) : ∀ (sh : List UInt8) (A : F) (ns : List (List UInt8)) (l : List UInt8) (E : Int), plainT l → plainT (argsS T sh A ns l E).2.1
  | [], _, _, _, _, h => h
  | c :: sh, A, ns, l, E, h => by rw [argsS]; exact argsS_plain T hT sh _ _ _ _ (hT _ _ _ (bindS_plain _ _ _ _ h))
theorem head_plain {l : List UInt8} (h : plainT l) : plainT (headL l) := by
  unfold headL
  split
  · exact h.skip.rest
  · exact h.skip
theorem termS_plain (ds : List (List UInt8)) : ∀ (n : Nat) (ns : List (List UInt8)) (l : List UInt8) (E : Int), plainT l → plainT (termS ds n ns l E).2.1
  | 0, _, _, _, h => h
  | n + 1, ns, l, E, h => by
    rw [termS]
    dsimp only
    split
    · exact h
    · split
      · exact (argsS_plain _ (termS_plain ds n) _ _ _ _ _ (head_plain h.rest)).rest
      · exact h.rest
end Tmx
