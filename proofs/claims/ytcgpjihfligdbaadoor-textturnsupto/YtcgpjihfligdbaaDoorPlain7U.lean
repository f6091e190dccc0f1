/-
  What a text is, plainly, as the document's reader tells it: of every text.
-/
import Derived.Test.YtcgpjihfligdbaaDoorMem4U
import Derived.Test.YtcgpjihfligdbaaDoorPlain3m
namespace Tmx
open Go.Deep

/-- So many names are taken. -/
def bindS : Nat → List (List UInt8) → List UInt8 → Int → List (List UInt8) × List UInt8 × Int
  | 0, ns, l, E => (ns, l, E)
  | m + 1, ns, l, E => bindS m (ns ++ [peekW l]) (restW l) (if nameB (peekW l) = false then failE (wE l E) 7 else wE l E)

/-- What stands for a term: of the names, what is left of the text, and the error: the term, what is left, the error. -/
abbrev TermF := List (List UInt8) → List UInt8 → Int → (Int × Int × F) × List UInt8 × Int

/-- The arguments of a shape, behind others. -/
def argsS (T : TermF) : List UInt8 → F → List (List UInt8) → List UInt8 → Int → F × List UInt8 × Int
  | [], A, _, l, E => (A, l, E)
  | c :: sh, A, ns, l, E =>
    argsS T sh (snoc A (T (bindS (c.toNat - 48) ns l E).1 (bindS (c.toNat - 48) ns l E).2.1 (if 8 < (bindS (c.toNat - 48) ns l E).1.length then failE (bindS (c.toNat - 48) ns l E).2.2 5 else (bindS (c.toNat - 48) ns l E).2.2)).1) ns
      (T (bindS (c.toNat - 48) ns l E).1 (bindS (c.toNat - 48) ns l E).2.1 (if 8 < (bindS (c.toNat - 48) ns l E).1.length then failE (bindS (c.toNat - 48) ns l E).2.2 5 else (bindS (c.toNat - 48) ns l E).2.2)).2.1
      (T (bindS (c.toNat - 48) ns l E).1 (bindS (c.toNat - 48) ns l E).2.1 (if 8 < (bindS (c.toNat - 48) ns l E).1.length then failE (bindS (c.toNat - 48) ns l E).2.2 5 else (bindS (c.toNat - 48) ns l E).2.2)).2.2

/-- The kind behind a bracket. -/
def headK (l : List UInt8) : Int := if 0 < kindOf (peekW l) ∧ shpL (kindOf (peekW l)) ≠ [] then kindOf (peekW l) else 5
def headL (l : List UInt8) : List UInt8 := if 0 < kindOf (peekW l) ∧ shpL (kindOf (peekW l)) ≠ [] then restW (skip l) else skip l
def headE (l : List UInt8) (E : Int) : Int := if 0 < kindOf (peekW l) ∧ shpL (kindOf (peekW l)) ≠ [] then wE (skip l) E else E
/-- What stands behind the arguments. -/
def tailE (l : List UInt8) (E : Int) : Int := if peekW l = [41] then wE l E else failE (wE l E) 2

/-- A term of a text, so many levels at most. -/
def termS (ds : List (List UInt8)) : Nat → TermF
  | 0 => fun _ l E => ((0, 0, .nil), l, failE E 9)
  | n + 1 => fun ns l E =>
    if E ≠ 0 then ((0, 0, .nil), l, E)
    else if peekW l = [40] then
      ((headK (restW l), 0, (argsS (termS ds n) (shpL (headK (restW l))) .nil ns (headL (restW l)) (headE (restW l) (wE l E))).1),
        restW (argsS (termS ds n) (shpL (headK (restW l))) .nil ns (headL (restW l)) (headE (restW l) (wE l E))).2.1,
        tailE (argsS (termS ds n) (shpL (headK (restW l))) .nil ns (headL (restW l)) (headE (restW l) (wE l E))).2.1 (argsS (termS ds n) (shpL (headK (restW l))) .nil ns (headL (restW l)) (headE (restW l) (wE l E))).2.2)
    else ((atomS ns ds (peekW l) (wE l E)).1, restW l, (atomS ns ds (peekW l) (wE l E)).2)

/-- No more than so many. -/
def plainT (l : List UInt8) : Prop := True ∧ l.length ≤ 1500

theorem skip_sub : ∀ l, ∀ c ∈ skip l, c ∈ l
  | [], c, h => by simp [skip] at h
  | d :: r, c, h => by
    rw [skip] at h
    split at h
    · exact List.mem_cons_of_mem _ (skip_sub r c h)
    · exact h
theorem plainT.skip {l : List UInt8} (h : plainT l) : plainT (skip l) := ⟨trivial, Nat.le_trans (skip_len l) h.2⟩
theorem plainT.rest {l : List UInt8} (h : plainT l) : plainT (restW l) := by
  refine ⟨trivial, ?_⟩
  unfold restW
  rw [List.length_drop]
  have := h.skip.2
  omega
theorem plainT.peek_len {l : List UInt8} (h : plainT l) : (peekW l).length ≤ 1500 := by
  unfold peekW
  rw [List.length_take]
  have := h.skip.2
  omega
theorem bindS_plain : ∀ (m : Nat) (ns : List (List UInt8)) (l : List UInt8) (E : Int), plainT l → plainT (bindS m ns l E).2.1
  | 0, _, _, _, h => h
  | m + 1, ns, l, E, h => by rw [bindS]; exact bindS_plain m _ _ _ h.rest
theorem bindS_len : ∀ (m : Nat) (ns : List (List UInt8)) (l : List UInt8) (E : Int), (bindS m ns l E).1.length = ns.length + m
  | 0, _, _, _ => rfl
  | m + 1, ns, l, E => by rw [bindS, bindS_len m]; simp; omega
theorem argsS_plain (T : TermF) (hT : ∀ ns l E, plainT l → plainT (T ns l E).2.1) : ∀ (sh : List UInt8) (A : F) (ns : List (List UInt8)) (l : List UInt8) (E : Int), plainT l → plainT (argsS T sh A ns l E).2.1
  | [], _, _, _, _, h => h
  | c :: sh, A, ns, l, E, h => by rw [argsS]; exact argsS_plain T hT sh _ _ _ _ (hT _ _ _ (bindS_plain _ _ _ _ h))
theorem head_plain {l : List UInt8} (h : plainT l) : plainT (headL l) := by
  unfold headL
  split
  · exact h.skip.rest
  · exact h.skip
theorem termS_plain (ds : List (List UInt8)) : ∀ (n : Nat) (ns : List (List UInt8)) (l : List UInt8) (E : Int), plainT l → plainT (termS ds n ns l E).2.1
  | 0, _, _, _, h => h
  | n + 1, ns, l, E, h => by
    rw [termS]
    dsimp only
    split
    · exact h
    · split
      · exact (argsS_plain _ (termS_plain ds n) _ _ _ _ _ (head_plain h.rest)).rest
      · exact h.rest
end Tmx
