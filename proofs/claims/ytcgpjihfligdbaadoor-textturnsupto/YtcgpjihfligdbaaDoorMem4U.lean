/-
  Lists of names in memory; what an atom is.
-/
import Derived.Test.YtcgpjihfligdbaaDoorMem3
import Derived.Test.YtcgpjihfligdbaaDoorPlain6
import Derived.Lib.AtoiAll
import Derived.Lib.ItoaNum
namespace Tmx
open Go Go.Deep Go.RowKit

/-- The slice that begins at p holds the names ns in w, in another block than r. -/
def Strs (r : Nat) (w : World) (p : Option Addr) (ns : List (List UInt8)) : Prop :=
  ∃ b o, (0 < ns.length → p = some ⟨b, o, none⟩ ∧ b ≠ r) ∧ ∀ i, i < ns.length → w.cell? ⟨b, o + i, none⟩ = some (.string ⟨(ns.getD i []).toArray⟩)
theorem Strs.nil (r : Nat) (w : World) (p : Option Addr) : Strs r w p [] := ⟨0, 0, fun h => by simp at h, fun i h => by simp at h⟩
theorem Strs.kept {r : Nat} {w w' : World} {p : Option Addr} {ns : List (List UInt8)} (h : Strs r w p ns) (hk : Kept r w w') : Strs r w' p ns := by
  obtain ⟨b, o, h1, h2⟩ := h
  exact ⟨b, o, h1, fun i hi => hk.cell (h1 (by omega)).2 (h2 i hi)⟩
theorem Strs.at {r : Nat} {w : World} {p : Option Addr} {ns : List (List UInt8)} (h : Strs r w p ns) {i : Nat} (hi : i < ns.length) : ∃ b o, p = some ⟨b, o, none⟩ ∧ b ≠ r ∧ w.cell? ⟨b, o + i, none⟩ = some (.string ⟨(ns.getD i []).toArray⟩) := by
  obtain ⟨b, o, h1, h2⟩ := h
  exact ⟨b, o, (h1 (by omega)).1, (h1 (by omega)).2, h2 i hi⟩

/-- The last of the first n names that is that one. -/
def fl (ns : List (List UInt8)) (wd : List UInt8) : Nat → Option Nat
  | 0 => none
  | n + 1 => if ns.getD n [] = wd then some n else fl ns wd n
theorem fl_yes {ns : List (List UInt8)} {wd : List UInt8} {n : Nat} {v : Option Nat} (h : fl ns wd (n + 1) = v) (hw : (ns.getD n [] == wd) = true) : v = some n := by
  rw [fl, if_pos (by simpa using hw)] at h
  exact h.symm
theorem fl_no {ns : List (List UInt8)} {wd : List UInt8} {n : Nat} {v : Option Nat} (h : fl ns wd (n + 1) = v) (hw : (ns.getD n [] == wd) = false) : fl ns wd n = v := by
  rw [fl, if_neg (by simpa using hw)] at h
  exact h

/-- What an atom is, and the error behind it: of words that do not begin with U. -/
def atomD (ds : List (List UInt8)) (wd : List UInt8) (E : Int) : (Int × Int × F) × Int :=
  match fl ds wd ds.length with
  | some i => ((18, (i : Int), .nil), E)
  | none => ((0, 0, .nil), failE E 6)
def atomV (ns ds : List (List UInt8)) (wd : List UInt8) (E : Int) : (Int × Int × F) × Int :=
  match fl ns wd ns.length with
  | some i => ((1, (ns.length : Int) - 1 - i, .nil), E)
  | none => atomD ds wd E
def atomN (ns ds : List (List UInt8)) (wd : List UInt8) (E : Int) : (Int × Int × F) × Int :=
  if 0 < kindOf wd then (if shpL (kindOf wd) = [] then ((kindOf wd, 0, .nil), E) else ((0, 0, .nil), failE E 2))
  else if nameB wd = false then ((0, 0, .nil), failE E 7) else atomV ns ds wd E
/-- What a word is that begins with U. -/
def atomU (wd : List UInt8) (E : Int) : (Int × Int × F) × Int :=
  match Lib.atoiAll (wd.drop 1) with
  | .ok n => if Lib.itoa n = wd.drop 1 then (if n < 0 ∨ 3 < n then ((0, 0, .nil), failE E 3) else ((2, n, .nil), E)) else ((0, 0, .nil), failE E 2)
  | _ => ((0, 0, .nil), failE E 2)
def atomS (ns ds : List (List UInt8)) (wd : List UInt8) (E : Int) : (Int × Int × F) × Int := if wd.head? = some 85 then atomU wd E else atomN ns ds wd E
end Tmx
