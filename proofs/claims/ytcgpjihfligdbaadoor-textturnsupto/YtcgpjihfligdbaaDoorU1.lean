/-
  What strconv.Atoi and strconv.Itoa answer, at every text, and every number: off the library's shelf.
-/
import Derived.Shelf.Strconv.AtoiAll
import Derived.Shelf.Strconv.ErrVarAll
import Derived.Shelf.Strconv.Itoa3
import Derived.Lib.AtoiErrMem
import Derived.Test.YtcgpjihfligdbaaDoorLays
import Derived.Test.YtcgpjihfligdbaaDoorMem3
import Derived.WalkKit
import Derived.BigCall
namespace Go.Proofs.YtcgpjihfligdbaaDoor
open Go.Shelf Go.RowKit Tmx
set_option maxRecDepth 60000

theorem atoi_ok (s : ByteArray) (hmax : s.size ≤ 9223372036854775806) (v : Int) (h : Lib.atoiAll s.data.toList = .ok v) (w : World) :
    Calls Tryd.prog 96 #[.string s] w fun e w' => e = .returned (.tuple #[.int .i64 v, .nilIface]) ∧ Below w.heap.size w w' :=
  (Any.strconv_Atoi_ok Tryd.laysAtoi s hmax v h w).mono fun e w' ⟨h1, h2⟩ => ⟨h1, by
    rcases h2 with rfl | ⟨t, rfl⟩
    · exact Below.refl _ _
    · exact Lib.bytesWorld_below _ _ _⟩
theorem atoi_err (s : ByteArray) (hlim : s.size ≤ 281474976710656) (h : ∀ v, Lib.atoiAll s.data.toList ≠ .ok v) (w : World) (hsyn : ∃ tp p, w.var? Tryd.prog "strconv.ErrSyntax" = some #[.iface tp p]) (hran : ∃ tp p, w.var? Tryd.prog "strconv.ErrRange" = some #[.iface tp p]) :
    Calls Tryd.prog 96 #[.string s] w fun e w' => (∃ v T p, e = .returned (.tuple #[.int .i64 v, .iface T p])) ∧ Below w.heap.size w w' := by
  obtain ⟨t1, p1, h1⟩ := hsyn
  obtain ⟨t2, p2, h2⟩ := hran
  rcases e : Lib.atoiAll s.data.toList with v | _ | _
  · exact absurd e (h v)
  · exact (Any.strconv_Atoi_syntax_var Tryd.laysAtoi s hlim e t1 p1 w h1).mono fun _ _ ⟨_, h1, _, _, h2⟩ => ⟨⟨_, _, _, h1⟩, h2⟩
  · exact (Any.strconv_Atoi_range_var Tryd.laysAtoi s hlim e t2 p2 w h2).mono fun _ _ ⟨_, h1, _, _, h2⟩ => ⟨⟨_, _, _, h1⟩, h2⟩
theorem itoa_any (n : Int) (h0 : -9223372036854775808 ≤ n) (h1 : n ≤ 9223372036854775807) (w : World) (htab : Lib.TabIs Tryd.prog w "internal/strconv.uint64pow10" .u64 Lib.pow10Tab) :
    Calls Tryd.prog 56 #[.int .i64 n] w fun e w' => e = .returned (.string ⟨(Lib.itoa n).toArray⟩) ∧ Below w.heap.size w w' :=
  (Any.strconv_Itoa Tryd.laysItoa n h0 h1 w htab).mono fun e w' ⟨h1, k, os, h2⟩ => ⟨h1, by
    subst h2
    exact ⟨rfl, rfl, rfl, by simp [World.drewN], fun k hk => by
      show ((w.drewN _).heap ++ os)[k]? = w.heap[k]?
      rw [Array.getElem?_append_left (by simpa [World.drewN] using hk)]
      rfl⟩⟩

/-- The kinds' words, as they are laid. -/
def wordsT : List (List UInt8) := [[], [], [], [112, 105], [102, 110], [], [115, 105, 103], [112, 97, 105, 114], [102, 115, 116], [115, 110, 100], [117, 110, 105, 116], [115, 116, 97, 114], [101, 109, 112, 116, 121], [97, 98, 115, 117, 114, 100], [110, 97, 116], [122, 101, 114, 111], [115, 117, 99], [114, 101, 99]]
def wordsC : Array Value := (wordsT.map fun l => Value.string ⟨l.toArray⟩).toArray
/-- What is laid of the variables; the block r is none of them. -/
def Vs (r : Nat) (w : World) : Prop := 6 ≤ r ∧ (∃ tp p, w.var? Tryd.prog "strconv.ErrSyntax" = some #[.iface tp p]) ∧ (∃ tp p, w.var? Tryd.prog "strconv.ErrRange" = some #[.iface tp p]) ∧ Lib.TabIs Tryd.prog w "internal/strconv.uint64pow10" .u64 Lib.pow10Tab ∧ w.var? Tryd.prog "sortkernel/text.words" = some wordsC
theorem var_kept {w w' : World} {n : String} {g : Nat} {cs : Array Value} (hg : Tryd.prog.globalNamed n = some g) (hv : w.var? Tryd.prog n = some cs) (hb : g < w.heap.size → w'.heap[g]? = w.heap[g]?) : w'.var? Tryd.prog n = some cs := by
  have hlt : g < w.heap.size := by
    rcases Nat.lt_or_ge g w.heap.size with h | h
    · exact h
    · simp [World.var?, hg, Array.getElem?_eq_none h] at hv
  simpa [World.var?, hg, hb hlt] using hv
theorem gSyntax : Tryd.prog.globalNamed "strconv.ErrSyntax" = some 2 := by kernel_rfl
theorem gRange : Tryd.prog.globalNamed "strconv.ErrRange" = some 3 := by kernel_rfl
theorem gPow : Tryd.prog.globalNamed "internal/strconv.uint64pow10" = some 1 := by kernel_rfl
theorem gWords : Tryd.prog.globalNamed "sortkernel/text.words" = some 0 := by kernel_rfl
theorem Vs.along {r : Nat} {w w' : World} (h : Vs r w) (hb : ∀ g, g < 6 → g < w.heap.size → w'.heap[g]? = w.heap[g]?) : Vs r w' := by
  obtain ⟨h0, ⟨t1, p1, h1⟩, ⟨t2, p2, h2⟩, h3, h4⟩ := h
  exact ⟨h0, ⟨t1, p1, var_kept gSyntax h1 (hb _ (by omega))⟩, ⟨t2, p2, var_kept gRange h2 (hb _ (by omega))⟩, var_kept gPow h3 (hb _ (by omega)), var_kept gWords h4 (hb _ (by omega))⟩
theorem Vs.kept {r : Nat} {w w' : World} (h : Vs r w) (hk : Kept r w w') : Vs r w' := h.along fun g h3 hg => hk.block g hg (by have := h.1; omega)
theorem Vs.below {r : Nat} {w w' : World} (h : Vs r w) (hk : Below w.heap.size w w') : Vs r w' := h.along fun g _ hg => hk.block g hg
/-- The words' table in memory. -/
theorem Vs.words {r : Nat} {w : World} (h : Vs r w) : ∃ t f, w.heap[0]? = some (.cells wordsC t f) := by
  have h4 := h.2.2.2.2
  simp only [World.var?, gWords] at h4
  cases e : w.heap[0]? with
  | none => simp [e] at h4
  | some o => cases o <;> simp_all
end Go.Proofs.YtcgpjihfligdbaaDoor
