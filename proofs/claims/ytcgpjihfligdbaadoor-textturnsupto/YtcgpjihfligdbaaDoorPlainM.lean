/-
  What is written is read again; what is read is right.
-/
import Derived.Test.YtcgpjihfligdbaaDoorPlainLm
namespace Go.Proofs.YtcgpjihfligdbaaDoor
open Go.Deep Tmx
set_option maxRecDepth 60000

theorem len_zed : ∀ f : F, len (zed f) = len f
  | .nil => rfl
  | .node _ _ a l r => by rw [zed, len, len, len_zed r]
theorem lookF_zed (decls : Int) : ∀ (f : F) (bound deep k : Int) (i : Nat), lookF decls (zed f) bound deep k i = lookF decls f bound deep k i
  | .nil, _, _, _, _ => rfl
  | .node _ _ a l r, bound, deep, k, i => by rw [zed, lookF, lookF, len_zed, lookF_zed decls l, lookF_zed decls r]
theorem lookT_zed (decls bound deep k n : Int) (f : F) : lookT decls bound deep k n (zed f) = lookT decls bound deep k n f := by
  unfold lookT
  rw [len_zed, lookF_zed]
theorem ppF_zed (ds : List (List UInt8)) : ∀ (f : F) (sh : List UInt8) (ns : List (List UInt8)) (fl : Bool), ppF ds (zed f) sh ns fl = ppF ds f sh ns fl
  | .nil, _, _, _ => rfl
  | .node _ _ a l r, sh, ns, fl => by rw [zed, ppF, ppF, ppF_zed ds l, ppF_zed ds r]
theorem ppT_zed (ds ns : List (List UInt8)) (k n : Int) (f : F) : ppT ds ns k n (zed f) = ppT ds ns k n f := by
  unfold ppT
  rw [ppF_zed]
theorem size_zed : ∀ f : F, size (zed f) = size f
  | .nil => rfl
  | .node _ _ a l r => by rw [zed, size, size, size_zed l, size_zed r]
theorem sameT_zed (k n : Int) (f : F) : sameT k n f k n (zed f) = true := by simp [sameT, same_zed]

theorem parse_written {ns ds : List (List UInt8)} (hg : Tmx.Good ns ds) (hnd : NE ns ∧ NE ds) {k n : Int} {f : F} (h1 : lookT ds.length ns.length 1 k n f = 0) (hb : boundF f (shpL k) ns.length ≤ 8) (h8 : ns.length ≤ 8) (h15 : (ppT ds ns k n f).length ≤ 1500) :
    ansK (parseK ds ns (ppT ds ns k n f)) = ((k, n, zed f), 0) := by
  unfold parseK
  rw [if_neg (by omega), if_neg (by omega), ← prT_pp hnd.2 hnd.1 h1, read_written hg h1 hb]
  rfl
theorem parse_long {ns ds : List (List UInt8)} {x : List UInt8} (h : 1500 < x.length) : ansK (parseK ds ns x) = ((0, 0, .nil), 4) := by
  unfold parseK
  rw [if_pos h]
  rfl
theorem namesK_err : ∀ (m : Nat) (ns ts : List (List UInt8)) (y : Int), namesK m ns ts = .error y → y ≠ 0
  | 0, _, _, _, h => by rw [namesK] at h; cases h
  | m + 1, _, [], _, h => by rw [namesK] at h; cases h; decide
  | m + 1, ns, x :: r, y, h => by
    rw [namesK] at h
    split at h
    · exact namesK_err m _ _ y h
    · cases h; decide
theorem argK_err {T : List (List UInt8) → List (List UInt8) → GotK} (hT : ∀ ns ws y, T ns ws = .error y → y ≠ 0) {m : Nat} {ns ws : List (List UInt8)} {y : Int} (h : argK T m ns ws = .error y) : y ≠ 0 := by
  unfold argK at h
  cases hN : namesK m ns ws with
  | error z => rw [hN, andX_error] at h; cases h; exact namesK_err m ns ws _ hN
  | ok p =>
    rw [hN, andX_ok] at h
    split at h
    · cases h; decide
    · exact hT _ _ _ h
theorem argsK_err {T : List (List UInt8) → List (List UInt8) → GotK} (hT : ∀ ns ws y, T ns ws = .error y → y ≠ 0) : ∀ (sh : List UInt8) (A : F) (ns ws : List (List UInt8)) (y : Int), argsK T sh A ns ws = .error y → y ≠ 0
  | [], _, _, _, _, h => by rw [argsK] at h; cases h
  | c :: sh, A, ns, ws, y, h => by
    rw [argsK_cons] at h
    cases hN : argK T (c.toNat - 48) ns ws with
    | error z => rw [hN, andX_error] at h; cases h; exact argK_err hT hN
    | ok p => rw [hN, andX_ok] at h; exact argsK_err hT sh _ _ _ y h
theorem termK_err (ds : List (List UInt8)) : ∀ (n : Nat) (ns ws : List (List UInt8)) (y : Int), termK ds n ns ws = .error y → y ≠ 0
  | 0, _, _, _, h => by rw [termK] at h; cases h; decide
  | n + 1, _, [], _, h => by rw [termK] at h; cases h; decide
  | n + 1, ns, a :: ws, y, h => by
    rw [termK] at h
    split at h
    · cases hA : argsK (termK ds n) (shpL (headKT ws)) .nil ns (headTT ws) with
      | error z => rw [hA] at h; cases h; exact argsK_err (termK_err ds n) _ _ _ _ _ hA
      | ok p =>
        obtain ⟨B, us⟩ := p
        rw [hA] at h
        cases us with
        | nil => cases h; decide
        | cons u us =>
          rw [closeK] at h
          split at h
          · cases h
          · cases h; decide
    · unfold atomK at h
      split at h
      · cases h
      · rename_i h0
        cases h
        exact h0
theorem parse_err {ds ns : List (List UInt8)} {l : List UInt8} {y : Int} (h : parseK ds ns l = .error y) : y ≠ 0 := by
  unfold parseK at h
  split at h
  · cases h; decide
  · split at h
    · cases h; decide
    · cases hT : termK ds 24 ns (toks l) with
      | error z => rw [hT] at h; cases h; exact termK_err ds 24 ns _ _ hT
      | ok p =>
        obtain ⟨x, r⟩ := p
        rw [hT] at h
        cases r with
        | nil => cases h
        | cons a r => cases h; decide
theorem parse_right {ds ns : List (List UInt8)} {l : List UInt8} {x : Int × Int × F} (h8 : ns.length ≤ 8) (h : parseK ds ns l = .ok x) : lookT ds.length ns.length 1 x.1 x.2.1 x.2.2 = 0 ∧ boundF x.2.2 (shpL x.1) ns.length ≤ 8 ∧ size x.2.2 ≤ 1500 := by
  unfold parseK at h
  split at h
  · cases h
  · rename_i h15
    split at h
    · cases h
    · cases hT : termK ds 24 ns (toks l) with
      | error z => rw [hT] at h; cases h
      | ok p =>
        obtain ⟨u, r⟩ := p
        rw [hT] at h
        cases r with
        | nil =>
          cases h
          have h1 := termK_right ds 24 1 (by omega) ns (toks l) _ [] h8 hT
          have h2 := termK_size ds 24 ns (toks l) _ [] hT
          have h3 := tk_len l []
          rw [← toks_eq] at h3
          exact ⟨h1.1, h1.2, by simp at h2 h3; omega⟩
        | cons a r => cases h
end Go.Proofs.YtcgpjihfligdbaaDoor
