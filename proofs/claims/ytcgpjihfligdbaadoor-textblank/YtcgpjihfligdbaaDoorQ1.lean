/-
  The first fact of the statements on texts: the program is there.
-/
import Derived.Test.YtcgpjihfligdbaaDoorP5
namespace Go.Proofs.YtcgpjihfligdbaaDoor
open Go.RowKit Tmx
set_option maxRecDepth 60000

/-- Texts that were written out. -/
theorem tx_lit (w : World) (B : Nat) (ns : List (List UInt8)) (hB : w.heap[B]? = some (.cells (ns.map fun l => Value.string ⟨l.toArray⟩).toArray 9 (0, 0))) : Tx w.heap.size w (some ⟨B, 0, none⟩) ns := by
  have hlt : B < w.heap.size := by
    obtain ⟨h, _⟩ := Array.getElem?_eq_some_iff.1 hB
    exact h
  refine ⟨B, 0, fun _ => ⟨rfl, hlt⟩, fun i hi => ?_⟩
  rw [Nat.zero_add, cell_of_row w B i _ 9 (0, 0) hB]
  simp [List.getD_eq_getElem?_getD, List.getElem?_eq_getElem hi]

def aS : List UInt8 := [40, 114, 101, 99, 32, 110, 32, 110, 97, 116, 32, 97, 32, 109, 32, 107, 32, 40, 115, 117, 99, 32, 107, 41, 32, 116, 119, 111, 41]
def aF : F := .node 0 0 (14, 0) .nil (.node 0 0 (1, 0) .nil (.node 0 0 (16, 0) (.node 0 0 (1, 0) .nil .nil) (.node 0 0 (18, 1) .nil .nil)))
def aO : List UInt8 := [40, 114, 101, 99, 32, 120, 98, 32, 110, 97, 116, 32, 97, 32, 120, 98, 32, 120, 99, 32, 40, 115, 117, 99, 32, 120, 99, 41, 32, 116, 119, 111, 41]
theorem a1 : ansK (parseK [[111, 110, 101], [116, 119, 111]] [[97]] aS) = ((17, 0, aF), 0) := by kernel_rfl
theorem a2 : lookT ([[111, 110, 101], [116, 119, 111]] : List (List UInt8)).length ([[97]] : List (List UInt8)).length 1 17 0 aF = 0 := by decide
theorem a3 : ppT [[111, 110, 101], [116, 119, 111]] [[97]] 17 0 aF = aO := by kernel_rfl
theorem a4 : tk [] [40, 97, 32, 98, 41] = [[40], [97], [98], [41]] := by kernel_rfl
theorem a5 : nameB [97, 98] = true := by decide
theorem a6 : nameB [115, 117, 99] = false := by decide

set_option maxRecDepth 60000 in
set_option maxHeartbeats 4000000 in
theorem alive_any (w : World) (hv : Vs w.heap.size w) : Calls Tryd.prog 27 #[] w fun e w' => e = .returned (.bool true) ∧ Below w.heap.size w w' := by
  obtain ⟨W1, hW1⟩ : ∃ W1, w.alloc (.cells #[.string ⟨#[97]⟩] 9) = W1 := ⟨_, rfl⟩
  obtain ⟨W2, hW2⟩ : ∃ W2, W1.alloc (.cells #[.string ⟨#[111, 110, 101]⟩, .string ⟨#[116, 119, 111]⟩] 9) = W2 := ⟨_, rfl⟩
  have hz1 : W1.heap.size = w.heap.size + 1 := by rw [← hW1]; simp
  have hz2 : W2.heap.size = w.heap.size + 2 := by rw [← hW2]; simp; omega
  have hb1 : Below w.heap.size w W1 := by rw [← hW1]; exact (Below.refl _ _).alloc (Nat.le_refl _) _
  have hb12 : Below W1.heap.size W1 W2 := by rw [← hW2]; exact (Below.refl _ _).alloc (Nat.le_refl _) _
  have hb2 : Below w.heap.size w W2 := hb1.trans (hb12.mono (by omega))
  have hB1 : W2.heap[w.heap.size]? = some (.cells (([[97]] : List (List UInt8)).map fun l => Value.string ⟨l.toArray⟩).toArray 9 (0, 0)) := by
    rw [hb12.block _ (by omega), ← hW1]
    exact heap_alloc_new _ _
  have hB2 : W2.heap[w.heap.size + 1]? = some (.cells (([[111, 110, 101], [116, 119, 111]] : List (List UInt8)).map fun l => Value.string ⟨l.toArray⟩).toArray 9 (0, 0)) := by
    rw [← hz1, ← hW2]
    exact heap_alloc_new _ _
  have hv2 : Vs W2.heap.size W2 := by
    have h1 := hv.below hb2
    exact ⟨by have := hv.1; omega, h1.2⟩
  have HP : Hid (Calls Tryd.prog 23 #[.string ⟨aS.toArray⟩, .slice (some ⟨w.heap.size, 0, none⟩) 1 1, .slice (some ⟨w.heap.size + 1, 0, none⟩) 2 2] W2 (ParsePost W2 ((17, 0, aF), 0))) := by
    have := pparse_any W2 aS [[97]] [[111, 110, 101], [116, 119, 111]] (some ⟨w.heap.size, 0, none⟩) (some ⟨w.heap.size + 1, 0, none⟩) 1 2 (tx_lit W2 _ _ hB1) (tx_lit W2 _ _ hB2) hv2 (by simp) (by decide) (by decide) (by decide)
    rw [a1] at this
    exact this
  subst hW2
  subst hW1
  go_enter Tryd.func27, Tryd.ntmps27
  go_wp2_with fail
  refine HP.out.mono ?_
  clear HP
  rintro e w3 ⟨⟨p, cap, rfl, hsl⟩, hb3⟩
  have hb03 : Below w.heap.size w w3 := hb2.trans (hb3.mono (by omega))
  have hz3 := hb03.size
  have hs3 : Sl w3 p aF := hsl.sl
  obtain ⟨bb, o, k1, n1, p1, cap1, x1, y1, l1, r1, hp, hd1, hbb, q10, q11, _, _⟩ := hs3.at (Below.refl _ _) (i := 1) (by decide)
  obtain ⟨bb', o', k3, n3, p3, cap3, x3, y3, l3, r3, hp', hd3, _, q30, q31, _, _⟩ := hs3.at (Below.refl _ _) (i := 3) (by decide)
  subst hp
  obtain ⟨rfl, rfl⟩ : bb = bb' ∧ o = o' := by simpa using hp'
  obtain rfl : k1 = 1 := by
    have h : drop 1 aF = .node 0 0 (1, 0) .nil (.node 0 0 (16, 0) (.node 0 0 (1, 0) .nil .nil) (.node 0 0 (18, 1) .nil .nil)) := rfl
    rw [h] at hd1
    simp at hd1
    omega
  obtain rfl : n3 = 1 := by
    have h : drop 3 aF = .node 0 0 (18, 1) .nil .nil := rfl
    rw [h] at hd3
    simp at hd3
    omega
  rw [show (len aF) = 4 from rfl]
  clear hd1 hd3 hp' q11 q30 hB1 hB2 hv2 hb12 hb1 hsl
  obtain ⟨W4, hW4⟩ : ∃ W4, w3.alloc (.cells #[.int .i64 17, .int .i64 0, .slice (some ⟨bb, o, none⟩) 4 cap] 24) = W4 := ⟨_, rfl⟩
  obtain ⟨W5, hW5⟩ : ∃ W5, W4.alloc (.cells #[.string ⟨#[97]⟩] 9) = W5 := ⟨_, rfl⟩
  obtain ⟨W6, hW6⟩ : ∃ W6, W5.alloc (.cells #[.string ⟨#[111, 110, 101]⟩, .string ⟨#[116, 119, 111]⟩] 9) = W6 := ⟨_, rfl⟩
  have z4 : W4.heap.size = w3.heap.size + 1 := by rw [← hW4]; simp
  have z5 : W5.heap.size = w3.heap.size + 2 := by rw [← hW5]; simp; omega
  have z6 : W6.heap.size = w3.heap.size + 3 := by rw [← hW6]; simp; omega
  have b34 : Below w3.heap.size w3 W4 := by rw [← hW4]; exact (Below.refl _ _).alloc (Nat.le_refl _) _
  have b45 : Below W4.heap.size W4 W5 := by rw [← hW5]; exact (Below.refl _ _).alloc (Nat.le_refl _) _
  have b56 : Below W5.heap.size W5 W6 := by rw [← hW6]; exact (Below.refl _ _).alloc (Nat.le_refl _) _
  have b36 : Below w3.heap.size w3 W6 := (b34.trans (b45.mono (by omega))).trans (b56.mono (by omega))
  have b06 : Below w.heap.size w W6 := hb03.trans (b36.mono hz3)
  have hB1 : W6.heap[w3.heap.size + 1]? = some (.cells (([[97]] : List (List UInt8)).map fun l => Value.string ⟨l.toArray⟩).toArray 9 (0, 0)) := by
    rw [b56.block _ (by omega), ← hW5, ← z4]
    exact heap_alloc_new _ _
  have hB2 : W6.heap[w3.heap.size + 2]? = some (.cells (([[111, 110, 101], [116, 119, 111]] : List (List UInt8)).map fun l => Value.string ⟨l.toArray⟩).toArray 9 (0, 0)) := by
    rw [← z5, ← hW6]
    exact heap_alloc_new _ _
  have hv6 : Vs W6.heap.size W6 := by
    have h1 := hv.below b06
    exact ⟨by have := hv.1; omega, h1.2⟩
  have HPR : Hid (Calls Tryd.prog 25 #[.agg #[.int .i64 17, .int .i64 0, .slice (some ⟨bb, o, none⟩) 4 cap], .slice (some ⟨w3.heap.size + 1, 0, none⟩) 1 1, .slice (some ⟨w3.heap.size + 2, 0, none⟩) 2 2] W6 fun e w' => e = .returned (.string ⟨aO.toArray⟩) ∧ Below W6.heap.size W6 w') := by
    have := pprint_any W6 17 0 aF (some ⟨bb, o, none⟩) (some ⟨w3.heap.size + 1, 0, none⟩) (some ⟨w3.heap.size + 2, 0, none⟩) cap 1 2 [[97]] [[111, 110, 101], [116, 119, 111]] (hs3.below b36) a2 (tx_lit W6 _ _ hB1) (tx_lit W6 _ _ hB2) hv6 (by simp) (by decide) (by rw [a3]; decide)
    rw [a3] at this
    exact this
  subst hW6
  subst hW5
  subst hW4
  clear hB1 hB2 hv6 b34 b45 b56 b36
  go_wp2_with fail
  refine HPR.out.mono ?_
  clear HPR
  rintro e w7 ⟨rfl, hb7⟩
  have b07 : Below w.heap.size w w7 := b06.trans (hb7.mono b06.size)
  have hv7 := hv.below b07
  clear q10 q31
  rw [show aO = [40, 114, 101, 99, 32, 120, 98, 32, 110, 97, 116, 32, 97, 32, 120, 98, 32, 120, 99, 32, 40, 115, 117, 99, 32, 120, 99, 41, 32, 116, 119, 111, 41] from rfl]
  go_wp2_with fail
  refine (words_any [40, 97, 32, 98, 41] w7 (by decide)).mono ?_
  rintro e w8 ⟨⟨p8, c8, rfl, _⟩, hb8⟩
  have b08 : Below w.heap.size w w8 := b07.trans (hb8.mono b07.size)
  rw [show (tk [] [40, 97, 32, 98, 41]).length = 4 by rw [a4]; rfl]
  go_wp2_with fail
  refine (pname_any [97, 98] w8 w.heap.size (hv.below b08) (by decide)).mono ?_
  rintro e w9 ⟨rfl, rfl⟩
  rw [a5]
  go_wp2_with fail
  refine (pname_any [115, 117, 99] _ w.heap.size (hv.below b08) (by decide)).mono ?_
  rintro e w9 ⟨rfl, rfl⟩
  rw [a6]
  go_wp2_with fail
  go_ret
  exact ⟨rfl, b08⟩
end Go.Proofs.YtcgpjihfligdbaaDoor
