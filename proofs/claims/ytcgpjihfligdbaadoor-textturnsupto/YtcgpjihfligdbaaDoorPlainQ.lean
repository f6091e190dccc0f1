/-
  A term, written as the program writes it; that it is as the document's, where no name is empty.
-/
import Derived.Test.YtcgpjihfligdbaaDoorPlainSm
namespace Tmx
open Go.Deep

/-- Names, each with a blank behind it. -/
def xaft : List (List UInt8) → List UInt8
  | [] => []
  | w :: r => w ++ (32 :: xaft r)
theorem xstr_aft : ∀ xs, xstr xs ++ [32] = 32 :: xaft xs
  | [] => rfl
  | w :: r => by
    rw [xstr, xaft, List.cons_append, List.append_assoc, xstr_aft r]
/-- The arguments of a shape; whether a blank stands ahead. -/
def ppF (ds : List (List UInt8)) : F → List UInt8 → List (List UInt8) → Bool → List UInt8
  | .nil, _, _, _ => []
  | .node _ _ a l r, sh, ns, fl =>
    (if fl = true then [32] else []) ++ (xaft (xsOf (more sh) ns.length) ++
      ((if shpL a.1 = [] then atomP ds (ns ++ xsOf (more sh) ns.length) a.1 a.2 else 40 :: (wordL a.1.toNat ++ (ppF ds l (shpL a.1) (ns ++ xsOf (more sh) ns.length) (decide (a.1 ≠ 5)) ++ [41]))) ++
        ppF ds r sh.tail ns true))
def ppT (ds ns : List (List UInt8)) (k n : Int) (l : F) : List UInt8 := if shpL k = [] then atomP ds ns k n else 40 :: (wordL k.toNat ++ (ppF ds l (shpL k) ns (decide (k ≠ 5)) ++ [41]))
theorem ppF_node (ds : List (List UInt8)) (x y : Nat) (a : Int × Int) (l r : F) (sh : List UInt8) (ns : List (List UInt8)) (fl : Bool) :
    ppF ds (.node x y a l r) sh ns fl = (if fl = true then [32] else []) ++ (xaft (xsOf (more sh) ns.length) ++ (ppT ds (ns ++ xsOf (more sh) ns.length) a.1 a.2 l ++ ppF ds r sh.tail ns true)) := rfl

/-- No name is empty. -/
def NE (ns : List (List UInt8)) : Prop := ∀ x ∈ ns, x ≠ []
theorem NE.adds {ns : List (List UInt8)} (h : NE ns) : ∀ (m i : Nat), NE (ns ++ xsOf m i) := by
  intro m i x hx
  rcases List.mem_append.1 hx with h1 | h1
  · exact h x h1
  · clear hx
    induction m generalizing i with
    | zero => simp [xsOf] at h1
    | succ m ih =>
      rw [xsOf] at h1
      rcases List.mem_cons.1 h1 with rfl | h2
      · simp [xname]
      · exact ih (i + 1) h2
theorem NE.getD {ns : List (List UInt8)} (h : NE ns) {i : Nat} (hi : i < ns.length) : ns.getD i [] ≠ [] := by
  rw [List.getD_eq_getElem?_getD, List.getElem?_eq_getElem hi]
  exact h _ (List.getElem_mem hi)
theorem tab_ne : ∀ K : Fin 19, shpL (K.val : Int) = [] → K.val ≠ 0 → K.val ≠ 1 → K.val ≠ 2 → K.val ≠ 18 → wordL K.val ≠ [] := by decide
theorem ppT_ne {ds ns : List (List UInt8)} {k n deep : Int} {l : F} (hd : NE ds) (hn : NE ns) (hl : lookT ds.length ns.length deep k n l = 0) : ppT ds ns k n l ≠ [] := by
  unfold ppT
  split
  · rename_i hs
    unfold lookT at hl
    split at hl
    · cases hl
    · split at hl
      · cases hl
      · split at hl
        · cases hl
        · split at hl
          · cases hl
          · rename_i _ hk _ hr
            have hk : 1 ≤ k ∧ k ≤ 18 := by omega
            unfold atomP
            unfold least at hr
            by_cases h1 : k = 1
            · rw [if_pos h1]
              rw [if_pos h1] at hr
              exact hn.getD (by omega)
            · rw [if_neg h1]
              rw [if_neg h1] at hr
              by_cases h18 : k = 18
              · rw [if_pos h18]
                rw [if_neg (by omega), if_pos h18] at hr
                exact hd.getD (by omega)
              · rw [if_neg h18]
                by_cases h2 : k = 2
                · rw [if_pos h2]; simp
                · rw [if_neg h2]
                  obtain ⟨K, rfl⟩ : ∃ K : Nat, k = (K : Int) := ⟨k.toNat, by omega⟩
                  rw [Int.toNat_natCast]
                  exact tab_ne ⟨K, by omega⟩ hs (by show K ≠ 0; omega) (by show K ≠ 1; omega) (by show K ≠ 2; omega) (by show K ≠ 18; omega)
  · simp

theorem lookF_first {decls : Int} {x y : Nat} {a : Int × Int} {l r : F} {bound deep k : Int} {i : Nat} (h : lookF decls (.node x y a l r) bound deep k i = 0) : lookT decls (bound + bindsAt k i) deep a.1 a.2 l = 0 ∧ lookF decls r bound deep k (i + 1) = 0 := by
  rw [lookF_node] at h
  by_cases h1 : lookT decls (bound + bindsAt k i) deep a.1 a.2 l = 0
  · rw [if_neg (by simp [h1])] at h
    exact ⟨h1, h⟩
  · rw [if_pos h1] at h
    exact absurd h h1
theorem lookT_args {decls bound deep k n : Int} {l : F} (h : lookT decls bound deep k n l = 0) : (1 ≤ k ∧ k ≤ 18) ∧ len l = (shpL k).length ∧ 0 ≤ n ∧ n < least bound decls k ∧ lookF decls l bound (deep + 1) k 0 = 0 ∧ deep ≤ 24 := by
  unfold lookT at h
  split at h
  · cases h
  · split at h
    · cases h
    · split at h
      · cases h
      · split at h
        · cases h
        · rename_i h0 h1 h2 h3
          exact ⟨by omega, by simpa using h2, by omega, by omega, h, by omega⟩

theorem tab_word_ne : ∀ K : Fin 19, K.val ≠ 0 → shpL (K.val : Int) ≠ [] → K.val ≠ 5 → wordL K.val ≠ [] := by decide
theorem word_ne {k : Int} (hk : 1 ≤ k ∧ k ≤ 18) (hs : shpL k ≠ []) (h5 : k ≠ 5) : wordL k.toNat ≠ [] := by
  obtain ⟨K, rfl⟩ : ∃ K : Nat, k = (K : Int) := ⟨k.toNat, by omega⟩
  rw [Int.toNat_natCast]
  exact tab_word_ne ⟨K, by omega⟩ (by show K ≠ 0; omega) hs (by show K ≠ 5; omega)
/-- The two are one. -/
theorem prF_pp (ds : List (List UInt8)) (hd : NE ds) : ∀ (f : F) (ns : List (List UInt8)) (k deep : Int) (i : Nat) (s : List UInt8) (fl : Bool), NE ns → 1 ≤ k ∧ k ≤ 18 → lookF ds.length f ns.length deep k i = 0 → i + len f = (shpL k).length →
    (s ≠ [40] ∧ s ≠ [] ∧ fl = true ∨ s = [40] ∧ fl = false ∧ more ((shpL k).drop i) = 0) → prF ds f ((shpL k).drop i) ns s = s ++ ppF ds f ((shpL k).drop i) ns fl
  | .nil, _, _, _, _, s, fl, _, _, _, _, _ => by rw [prF, ppF, List.append_nil]
  | .node x y a l r, ns, k, deep, i, s, fl, hn, hk, hl, hi, hs => by
    obtain ⟨h1, h2⟩ := lookF_first hl
    have hi' : i < (shpL k).length := by rw [len] at hi; omega
    have hm := more_eq hk hi'
    have hN : NE (ns ++ xsOf (more ((shpL k).drop i)) ns.length) := hn.adds _ _
    have hlen : ((ns ++ xsOf (more ((shpL k).drop i)) ns.length).length : Int) = ns.length + bindsAt k i := by rw [List.length_append, xsOf_len, Int.natCast_add, hm]
    rw [← hlen] at h1
    have hne := ppT_ne hd hN h1
    have hT : prT ds (ns ++ xsOf (more ((shpL k).drop i)) ns.length) a.1 a.2 l = ppT ds (ns ++ xsOf (more ((shpL k).drop i)) ns.length) a.1 a.2 l := by
      obtain ⟨hka, hll, _, _, hla, _⟩ := lookT_args h1
      unfold prT ppT
      split
      · rfl
      · rename_i hsh
        have hs0 : (shpL a.1) = (shpL a.1).drop 0 := by simp
        rw [hs0, prF_pp ds hd l _ a.1 (deep + 1) 0 _ (decide (a.1 ≠ 5)) hN hka hla (by omega) ?_]
        · simp
        · by_cases h5 : a.1 = 5
          · right
            rw [h5]
            exact ⟨by decide, by decide, by decide⟩
          · left
            refine ⟨?_, by simp, by simpa using h5⟩
            have hw := word_ne hka hsh h5
            intro e
            simp at e
            exact hw e
    rw [prF_node, ppF_node, hT, List.tail_drop]
    rcases hs with ⟨s1, s2, rfl⟩ | ⟨rfl, rfl, hm0⟩
    · have hx : s ++ xstr (xsOf (more ((shpL k).drop i)) ns.length) ≠ [40] := xstr_ne s1 _
      rw [if_neg hx, prF_pp ds hd r ns k deep (i + 1) _ true hn hk h2 (by rw [len] at hi; omega) (.inl ⟨?_, ?_, rfl⟩)]
      · rw [List.append_assoc s, xstr_aft, if_pos rfl]
        simp
      · intro e
        have h3 := congrArg List.length e
        have h4 : 0 < s.length := List.length_pos_iff.2 s2
        simp at h3
        omega
      · simp
    · rw [hm0]
      rw [hm0] at hne
      rw [show xsOf 0 ns.length = [] from rfl, show xstr [] = [] from rfl, List.append_nil, if_pos rfl, prF_pp ds hd r ns k deep (i + 1) _ true hn hk h2 (by rw [len] at hi; omega) (.inl ⟨?_, by simp, rfl⟩)]
      · rw [if_neg (by decide)]
        simp [xaft]
      · intro e
        simp at e
        rw [show xsOf 0 ns.length = [] from rfl, List.append_nil] at hne
        exact hne e
theorem prT_pp {ds ns : List (List UInt8)} (hd : NE ds) (hn : NE ns) {k n deep : Int} {l : F} (h : lookT ds.length ns.length deep k n l = 0) : prT ds ns k n l = ppT ds ns k n l := by
  obtain ⟨hka, hll, _, _, hla, _⟩ := lookT_args h
  unfold prT ppT
  split
  · rfl
  · rename_i hsh
    have hs0 : (shpL k) = (shpL k).drop 0 := by simp
    rw [hs0, prF_pp ds hd l _ k (deep + 1) 0 _ (decide (k ≠ 5)) hn hka hla (by omega) ?_]
    · simp
    · by_cases h5 : k = 5
      · right
        rw [h5]
        exact ⟨by decide, by decide, by decide⟩
      · left
        refine ⟨?_, by simp, by simpa using h5⟩
        have hw := word_ne hka hsh h5
        intro e
        simp at e
        exact hw e
end Tmx
