/-
  A text's words, and the document's reader over words.
-/
import Derived.Test.YtcgpjihfligdbaaDoorPlain7U
namespace Tmx
open Go.Deep

theorem plen_pos (c : UInt8) (r : List UInt8) : 0 < plen (c :: r) := by
  unfold plen
  split
  · omega
  · rename_i h
    have : wlen (c :: r) ≠ 0 := fun e => h ⟨e, by simp⟩
    omega
theorem skip_skip : ∀ l, skip (skip l) = skip l
  | [] => rfl
  | c :: r => by
    rw [skip]
    split
    · exact skip_skip r
    · rename_i h; exact skip_self c r h
theorem peek_skip (l : List UInt8) : peekW (skip l) = peekW l := by unfold peekW; rw [skip_skip]
theorem rest_skip (l : List UInt8) : restW (skip l) = restW l := by unfold restW; rw [skip_skip]
theorem peek_nil {l : List UInt8} (h : peekW l = []) : skip l = [] := by
  unfold peekW at h
  cases e : skip l with
  | nil => rfl
  | cons c r =>
    rw [e] at h
    have := plen_pos c r
    have h2 : ((c :: r).take (plen (c :: r))).length = 0 := by rw [h]; rfl
    rw [List.length_take] at h2
    simp at h2
    omega
theorem rest_nil {l : List UInt8} (h : peekW l = []) : restW l = [] := by
  unfold restW
  rw [peek_nil h]
  simp
theorem rest_lt {l : List UInt8} (h : peekW l ≠ []) : (restW l).length < l.length := by
  have h1 := skip_len l
  cases e : skip l with
  | nil => unfold peekW at h; rw [e] at h; simp at h
  | cons c r =>
    have := plen_pos c r
    unfold restW
    rw [e, List.length_drop]
    rw [e] at h1
    simp only [List.length_cons] at h1 ⊢
    omega

def toksN : Nat → List UInt8 → List (List UInt8)
  | 0, _ => []
  | n + 1, l => if peekW l = [] then [] else peekW l :: toksN n (restW l)
/-- A text's words. -/
def toks (l : List UInt8) : List (List UInt8) := toksN l.length l
theorem toksN_le : ∀ (n m : Nat) (l : List UInt8), l.length ≤ n → l.length ≤ m → toksN n l = toksN m l
  | 0, 0, _, _, _ => rfl
  | 0, m + 1, l, h, _ => by
    obtain rfl : l = [] := List.eq_nil_of_length_eq_zero (by omega)
    rfl
  | n + 1, 0, l, _, h => by
    obtain rfl : l = [] := List.eq_nil_of_length_eq_zero (by omega)
    rfl
  | n + 1, m + 1, l, h, h' => by
    rw [toksN, toksN]
    by_cases hp : peekW l = []
    · rw [if_pos hp, if_pos hp]
    · have := rest_lt hp
      rw [if_neg hp, if_neg hp, toksN_le n m (restW l) (by omega) (by omega)]
theorem toks_none {l : List UInt8} (h : peekW l = []) : toks l = [] := by
  unfold toks
  cases e : l.length with
  | zero => rfl
  | succ n => rw [toksN, if_pos h]
theorem toks_some {l : List UInt8} (h : peekW l ≠ []) : toks l = peekW l :: toks (restW l) := by
  have hlt := rest_lt h
  unfold toks
  cases e : l.length with
  | zero => omega
  | succ n => rw [toksN, if_neg h, toksN_le n _ _ (by omega) (Nat.le_refl _)]

/-- The next word; empty: none. -/
def hdT (ts : List (List UInt8)) : List UInt8 := ts.headD []
theorem peek_toks (l : List UInt8) : peekW l = hdT (toks l) := by
  by_cases h : peekW l = []
  · rw [toks_none h, h]; rfl
  · rw [toks_some h]; rfl
theorem rest_toks (l : List UInt8) : toks (restW l) = (toks l).tail := by
  by_cases h : peekW l = []
  · rw [toks_none h, rest_nil h]; rfl
  · rw [toks_some h]; rfl
theorem skip_toks (l : List UInt8) : toks (skip l) = toks l := by
  by_cases h : peekW l = []
  · rw [toks_none h, toks_none (by rw [peek_skip]; exact h)]
  · rw [toks_some h, toks_some (by rw [peek_skip]; exact h), peek_skip, rest_skip]

def wT (ts : List (List UInt8)) (E : Int) : Int := if hdT ts = [] then failE E 8 else E
theorem wE_toks (l : List UInt8) (E : Int) : wE l E = wT (toks l) E := by unfold wE wT; rw [peek_toks]
def bindT : Nat → List (List UInt8) → List (List UInt8) → Int → List (List UInt8) × List (List UInt8) × Int
  | 0, ns, ts, E => (ns, ts, E)
  | m + 1, ns, ts, E => bindT m (ns ++ [hdT ts]) ts.tail (if nameB (hdT ts) = false then failE (wT ts E) 7 else wT ts E)
abbrev TermTF := List (List UInt8) → List (List UInt8) → Int → (Int × Int × F) × List (List UInt8) × Int
def argsT (T : TermTF) : List UInt8 → F → List (List UInt8) → List (List UInt8) → Int → F × List (List UInt8) × Int
  | [], A, _, ts, E => (A, ts, E)
  | c :: sh, A, ns, ts, E =>
    argsT T sh (snoc A (T (bindT (c.toNat - 48) ns ts E).1 (bindT (c.toNat - 48) ns ts E).2.1 (if 8 < (bindT (c.toNat - 48) ns ts E).1.length then failE (bindT (c.toNat - 48) ns ts E).2.2 5 else (bindT (c.toNat - 48) ns ts E).2.2)).1) ns
      (T (bindT (c.toNat - 48) ns ts E).1 (bindT (c.toNat - 48) ns ts E).2.1 (if 8 < (bindT (c.toNat - 48) ns ts E).1.length then failE (bindT (c.toNat - 48) ns ts E).2.2 5 else (bindT (c.toNat - 48) ns ts E).2.2)).2.1
      (T (bindT (c.toNat - 48) ns ts E).1 (bindT (c.toNat - 48) ns ts E).2.1 (if 8 < (bindT (c.toNat - 48) ns ts E).1.length then failE (bindT (c.toNat - 48) ns ts E).2.2 5 else (bindT (c.toNat - 48) ns ts E).2.2)).2.2
def headKT (ts : List (List UInt8)) : Int := if 0 < kindOf (hdT ts) ∧ shpL (kindOf (hdT ts)) ≠ [] then kindOf (hdT ts) else 5
def headTT (ts : List (List UInt8)) : List (List UInt8) := if 0 < kindOf (hdT ts) ∧ shpL (kindOf (hdT ts)) ≠ [] then ts.tail else ts
def headET (ts : List (List UInt8)) (E : Int) : Int := if 0 < kindOf (hdT ts) ∧ shpL (kindOf (hdT ts)) ≠ [] then wT ts E else E
def tailET (ts : List (List UInt8)) (E : Int) : Int := if hdT ts = [41] then wT ts E else failE (wT ts E) 2
/-- A term of words, so many levels at most. -/
def termT (ds : List (List UInt8)) : Nat → TermTF
  | 0 => fun _ ts E => ((0, 0, .nil), ts, failE E 9)
  | n + 1 => fun ns ts E =>
    if E ≠ 0 then ((0, 0, .nil), ts, E)
    else if hdT ts = [40] then
      ((headKT ts.tail, 0, (argsT (termT ds n) (shpL (headKT ts.tail)) .nil ns (headTT ts.tail) (headET ts.tail (wT ts E))).1),
        (argsT (termT ds n) (shpL (headKT ts.tail)) .nil ns (headTT ts.tail) (headET ts.tail (wT ts E))).2.1.tail,
        tailET (argsT (termT ds n) (shpL (headKT ts.tail)) .nil ns (headTT ts.tail) (headET ts.tail (wT ts E))).2.1 (argsT (termT ds n) (shpL (headKT ts.tail)) .nil ns (headTT ts.tail) (headET ts.tail (wT ts E))).2.2)
    else ((atomS ns ds (hdT ts) (wT ts E)).1, ts.tail, (atomS ns ds (hdT ts) (wT ts E)).2)

theorem bindS_toks : ∀ (m : Nat) (ns : List (List UInt8)) (l : List UInt8) (E : Int), (bindS m ns l E).1 = (bindT m ns (toks l) E).1 ∧ toks (bindS m ns l E).2.1 = (bindT m ns (toks l) E).2.1 ∧ (bindS m ns l E).2.2 = (bindT m ns (toks l) E).2.2
  | 0, _, _, _ => ⟨rfl, rfl, rfl⟩
  | m + 1, ns, l, E => by
    rw [bindS, bindT, ← peek_toks, ← wE_toks, ← rest_toks]
    exact bindS_toks m _ _ _
theorem argsS_toks {S : TermF} {T : TermTF} (h : ∀ ns l E, (S ns l E).1 = (T ns (toks l) E).1 ∧ toks (S ns l E).2.1 = (T ns (toks l) E).2.1 ∧ (S ns l E).2.2 = (T ns (toks l) E).2.2) :
    ∀ (sh : List UInt8) (A : F) (ns : List (List UInt8)) (l : List UInt8) (E : Int), (argsS S sh A ns l E).1 = (argsT T sh A ns (toks l) E).1 ∧ toks (argsS S sh A ns l E).2.1 = (argsT T sh A ns (toks l) E).2.1 ∧ (argsS S sh A ns l E).2.2 = (argsT T sh A ns (toks l) E).2.2
  | [], _, _, _, _ => ⟨rfl, rfl, rfl⟩
  | c :: sh, A, ns, l, E => by
    obtain ⟨b1, b2, b3⟩ := bindS_toks (c.toNat - 48) ns l E
    obtain ⟨h1, h2, h3⟩ := h (bindS (c.toNat - 48) ns l E).1 (bindS (c.toNat - 48) ns l E).2.1 (if 8 < (bindS (c.toNat - 48) ns l E).1.length then failE (bindS (c.toNat - 48) ns l E).2.2 5 else (bindS (c.toNat - 48) ns l E).2.2)
    rw [argsS, argsT]
    have ih := argsS_toks h sh (snoc A (S (bindS (c.toNat - 48) ns l E).1 (bindS (c.toNat - 48) ns l E).2.1 (if 8 < (bindS (c.toNat - 48) ns l E).1.length then failE (bindS (c.toNat - 48) ns l E).2.2 5 else (bindS (c.toNat - 48) ns l E).2.2)).1) ns
      (S (bindS (c.toNat - 48) ns l E).1 (bindS (c.toNat - 48) ns l E).2.1 (if 8 < (bindS (c.toNat - 48) ns l E).1.length then failE (bindS (c.toNat - 48) ns l E).2.2 5 else (bindS (c.toNat - 48) ns l E).2.2)).2.1
      (S (bindS (c.toNat - 48) ns l E).1 (bindS (c.toNat - 48) ns l E).2.1 (if 8 < (bindS (c.toNat - 48) ns l E).1.length then failE (bindS (c.toNat - 48) ns l E).2.2 5 else (bindS (c.toNat - 48) ns l E).2.2)).2.2
    rw [h1, h2, h3, b1, b2, b3] at ih
    rw [h1, h3, b1, b2, b3]
    exact ih
theorem headK_toks (l : List UInt8) : headK l = headKT (toks l) := by unfold headK headKT; rw [peek_toks]
theorem headL_toks (l : List UInt8) : toks (headL l) = headTT (toks l) := by
  unfold headL headTT
  rw [peek_toks]
  split
  · rw [rest_skip, rest_toks]
  · rw [skip_toks]
theorem headE_toks (l : List UInt8) (E : Int) : headE l E = headET (toks l) E := by
  unfold headE headET
  rw [peek_toks, wE_toks, skip_toks]
theorem tailE_toks (l : List UInt8) (E : Int) : tailE l E = tailET (toks l) E := by
  unfold tailE tailET
  rw [peek_toks, wE_toks]
theorem termS_toks (ds : List (List UInt8)) : ∀ (n : Nat) (ns : List (List UInt8)) (l : List UInt8) (E : Int), (termS ds n ns l E).1 = (termT ds n ns (toks l) E).1 ∧ toks (termS ds n ns l E).2.1 = (termT ds n ns (toks l) E).2.1 ∧ (termS ds n ns l E).2.2 = (termT ds n ns (toks l) E).2.2
  | 0, _, _, _ => ⟨rfl, rfl, rfl⟩
  | n + 1, ns, l, E => by
    rw [termS, termT]
    dsimp only
    by_cases hE : E ≠ 0
    · rw [if_pos hE, if_pos hE]
      exact ⟨rfl, rfl, rfl⟩
    · rw [if_neg hE, if_neg hE, ← peek_toks]
      by_cases hb : peekW l = [40]
      · rw [if_pos hb, if_pos hb]
        dsimp only
        obtain ⟨a1, a2, a3⟩ := argsS_toks (termS_toks ds n) (shpL (headK (restW l))) .nil ns (headL (restW l)) (headE (restW l) (wE l E))
        rw [headL_toks, rest_toks, headE_toks, rest_toks, wE_toks, headK_toks, rest_toks] at a1 a2 a3
        refine ⟨?_, ?_, ?_⟩
        · rw [headK_toks, rest_toks, headE_toks, rest_toks, wE_toks, a1]
        · rw [rest_toks, headK_toks, rest_toks, headE_toks, rest_toks, wE_toks, a2]
        · rw [tailE_toks, headK_toks, rest_toks, headE_toks, rest_toks, wE_toks, a2, a3]
      · rw [if_neg hb, if_neg hb]
        dsimp only
        rw [wE_toks, rest_toks]
        exact ⟨rfl, rfl, rfl⟩
end Tmx
