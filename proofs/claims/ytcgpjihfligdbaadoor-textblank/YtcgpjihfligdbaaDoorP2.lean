/-
  The program's writer: what is written, at last; names by their places; words of kinds.
-/
import Derived.Test.YtcgpjihfligdbaaDoorP1
import Derived.Deep.RegionHeld3
namespace Go.Proofs.YtcgpjihfligdbaaDoor
open Go.RowKit Tmx
set_option maxRecDepth 60000

set_option maxRecDepth 100000 in
set_option maxHeartbeats 2000000 in
theorem bstring_any {lo b : Nat} {w : World} {l : List UInt8} {ns ds : List (List UInt8)} {bv : Value} (h : WS lo b w l ns ds bv) :
    Calls Tryd.prog 55 #[.pointer (some ⟨b, 0, none⟩)] w fun e w' => e = .returned (.string ⟨l.toArray⟩) ∧ Below lo w w' := by
  obtain ⟨A, U, pd, cd, h1, h2, h3, h4⟩ := h.blk
  have hlo : lo ≤ w.heap.size := by have := h.lt; have := h.lob; omega
  clear h h4
  by_cases h0 : l = []
  · obtain rfl := h3.2 h0
    subst h0
    have c1 : w.drew.cell? ⟨b, 1, none⟩ = some (.slice none 0 0) := h1.facts.2.1
    have hSD : (Builtin.unsafeSliceData_ #[82] 118 #[.slice none 0 0]).run Tryd.prog w.drew = .ok (.pointer none) w.drew := rfl
    have hUS : (Builtin.unsafeString_ #[118, 3] 9 #[.pointer none, .int .i64 0]).run Tryd.prog w.drew = .ok (.string .empty) w.drew := Lib.run_unsafeString_none w.drew _ _ _ none
    clear h1 h3
    go_enter Tryd.func55, Tryd.ntmps55
    go_wp2
    go_region
    all_goals (go_wp2; go_ret; exact ⟨rfl, Below.drew (Below.refl lo w)⟩)
  · have hl0 : l.length ≠ 0 := by simpa using h0
    obtain ⟨g, cap, cur, rfl, hbg, hg, hnc, hcm, hcs, htake⟩ : ∃ g cap cur, U = .slice (some ⟨g, 0, none⟩) l.length cap ∧ lo ≤ g ∧ w.heap[g]? = some (.cells cur 5 (0, 0)) ∧ l.length ≤ cap ∧ cap ≤ maxLen ∧ cur.size = cap * 1 ∧ cur.toList.take (l.length * 1) = Lib.byteCells l := by
      rcases h3.1.2 with ⟨_, hz⟩ | ⟨g, cap, cur, hv, r⟩
      · exact absurd hz hl0
      · exact ⟨g, cap, cur, hv, r⟩
    have c1 : w.drew.cell? ⟨b, 1, none⟩ = some (.slice (some ⟨g, 0, none⟩) l.length cap) := h1.facts.2.1
    have hSD : (Builtin.unsafeSliceData_ #[82] 118 #[.slice (some ⟨g, 0, none⟩) l.length cap]).run Tryd.prog w.drew = .ok (.pointer (some ⟨g, 0, none⟩)) w.drew := Lib.run_unsafeSliceData_row _ _ _ _ _ _ (by omega)
    have hUS : (Builtin.unsafeString_ #[118, 3] 9 #[.pointer (some ⟨g, 0, none⟩), .int .i64 l.length]).run Tryd.prog w.drew = .ok (.string ⟨l.toArray⟩) (w.drew.freeze ⟨g, 0, none⟩ l.length) := by
      have hg' : w.drew.heap[g]? = some (.cells cur 5 (0, 0)) := hg
      refine Lib.run_unsafeString_row w.drew 118 3 9 5 (by kernel_rfl) (by kernel_rfl) g cur.size (by simp [World.shape?, hg']) l h0 (by omega) (by unfold maxLen at hcm; omega) ?_
      intro j x hx
      have hadd : (⟨g, 0, none⟩ : Addr).add j = ⟨g, j, none⟩ := by unfold Addr.add; split <;> simp_all
      rw [hadd, cell_of_row w.drew g j cur 5 (0, 0) hg']
      have hj : j < l.length := by obtain ⟨hlt, _⟩ := List.getElem?_eq_some_iff.1 hx; exact hlt
      have h5 : (cur.toList.take (l.length * 1))[j]? = (Lib.byteCells l)[j]? := by rw [htake]
      rw [List.getElem?_take, if_pos (by omega)] at h5
      rw [← Array.getElem?_toList, h5]
      simp [Lib.byteCells, hx]
    clear h1 h3 htake
    go_enter Tryd.func55, Tryd.ntmps55
    go_wp2
    go_region
    all_goals (go_wp2; go_ret; exact ⟨rfl, Lib.below_freeze (Below.drew (Below.refl lo w)) (p := ⟨g, 0, none⟩) hbg _⟩)

set_option maxRecDepth 60000 in
set_option maxHeartbeats 1000000 in
theorem nameAt_any (lo : Nat) (w : World) (p : Option Addr) (c : Nat) (ns : List (List UInt8)) (i : Int) (h : Strs lo w p ns) (h0 : 0 ≤ i) (h1 : i < ns.length) :
    Calls Tryd.prog 83 #[.slice p ns.length c, .int .i64 i] w fun e w' => e = .returned (.string ⟨(ns.getD i.toNat []).toArray⟩) ∧ w' = w := by
  obtain ⟨j, rfl⟩ : ∃ j : Nat, i = (j : Int) := ⟨i.toNat, by omega⟩
  rw [Int.toNat_natCast]
  obtain ⟨b, o, rfl, _, hc⟩ := h.at (i := j) (by omega)
  obtain ⟨x, hx⟩ : ∃ x, ns.getD j [] = x := ⟨_, rfl⟩
  rw [hx] at hc ⊢
  clear hx h
  go_enter Tryd.func83, Tryd.ntmps83
  go_wp2_with fail
  go_ret
  exact ⟨rfl, rfl⟩

theorem Vs.cellW {r : Nat} {w : World} (h : Vs r w) (i : Nat) (hi : i < 18) : w.cell? ⟨0, i, none⟩ = some (.string ⟨(wordsT.getD i []).toArray⟩) := by
  obtain ⟨t, f, e⟩ := h.words
  have : wordsC[i]? = some (.string ⟨(wordsT.getD i []).toArray⟩) := by
    unfold wordsC
    rw [List.getElem?_toArray, List.getElem?_map]
    have h2 : i < wordsT.length := hi
    simp [List.getD_eq_getElem?_getD, List.getElem?_eq_getElem h2]
  simp [World.cell?, e, this]
theorem tab_words : ∀ i : Fin 18, i.val ≠ 2 → wordsT.getD i.val [] = wordL i.val := by decide
set_option maxRecDepth 60000 in
set_option maxHeartbeats 1000000 in
theorem wordOf_any (k : Int) (w : World) (r : Nat) (hv : Vs r w) (h1 : 0 ≤ k) (h2 : k ≤ 17) (h3 : k ≠ 2) :
    Calls Tryd.prog 99 #[.int .i64 k] w fun e w' => e = .returned (.string ⟨(wordL k.toNat).toArray⟩) ∧ w' = w := by
  obtain ⟨j, rfl⟩ : ∃ j : Nat, k = (j : Int) := ⟨k.toNat, by omega⟩
  rw [Int.toNat_natCast]
  have hc := hv.cellW j (by omega)
  rw [tab_words ⟨j, by omega⟩ (by show j ≠ 2; omega)] at hc
  simp only at hc
  obtain ⟨x, hx⟩ : ∃ x, wordL j = x := ⟨_, rfl⟩
  rw [hx] at hc ⊢
  clear hx hv
  go_enter Tryd.func99, Tryd.ntmps99
  go_wp2_with fail
  go_ret
  exact ⟨rfl, rfl⟩

set_option maxRecDepth 60000 in
set_option maxHeartbeats 1000000 in
theorem boundName_any (n : Nat) (w : World) (hn : n ≤ 1152921504606846976) :
    Calls Tryd.prog 109 #[.int .i64 (n : Int)] w fun e w' => e = .returned (.string ⟨(xname n).toArray⟩) ∧ w' = w := by
  have hm : n % 26 < 26 := Nat.mod_lt _ (by decide)
  have hX : ∀ i : Fin 26, ({ data := #[97, 98, 99, 100, 101, 102, 103, 104, 105, 106, 107, 108, 109, 110, 111, 112, 113, 114, 115, 116, 117, 118, 119, 120, 121, 122] } : ByteArray).extract i.val (i.val + 1) = ⟨#[UInt8.ofNat (97 + i.val)]⟩ := by decide
  have hXn : xname n = [120, UInt8.ofNat (97 + n % 26)] := rfl
  have hx1 := hX ⟨n % 26, hm⟩
  simp only at hx1
  obtain ⟨i, hi⟩ : ∃ i, n % 26 = i := ⟨_, rfl⟩
  have hi2 : (n : Int) % 26 = (i : Int) := by omega
  rw [hi] at hx1 hm
  rw [hXn, hi]
  obtain ⟨c, hc⟩ : ∃ c, UInt8.ofNat (97 + i) = c := ⟨_, rfl⟩
  rw [hc] at hx1 ⊢
  clear hc hX hXn hi
  go_enter Tryd.func109, Tryd.ntmps109
  go_wp2_with fail
  go_ret
  exact ⟨rfl, rfl⟩
end Go.Proofs.YtcgpjihfligdbaaDoor
