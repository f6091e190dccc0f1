/-
  A text's words, and the document's reader over words.
-/
/-
  The reader over words, told by its first error.
-/
import Derived.Test.YtcgpjihfligdbaaDoorPlain7U
namespace Tmx
open Go.Deep

theorem plen_pos (c : UInt8) (r : List UInt8) : 0 < plen (c :: r) := by
  unfold plen
  split
  · omega
  · rename_i h
    have : wlen (c :: r) ≠ 0 := fun e => h ⟨e, by simp⟩
    omega
theorem skip_skip : ∀ l, skip (skip l) = skip l
  | [] => rfl
  | c :: r => by
    rw [skip]
    split
    · exact skip_skip r
    · rename_i h; exact skip_self c r h
theorem peek_skip (l : List UInt8) : peekW (skip l) = peekW l := by unfold peekW; rw [skip_skip]
theorem rest_skip (l : List UInt8) : restW (skip l) = restW l := by unfold restW; rw [skip_skip]
theorem peek_nil {l : List UInt8} (h : peekW l = []) : skip l = [] := by
  unfold peekW at h
  cases e : skip l with
  | nil => rfl
  | cons c r =>
    rw [e] at h
    have := plen_pos c r
    have h2 : ((c :: r).take (plen (c :: r))).length = 0 := by rw [h]; rfl
    rw [List.length_take] at h2
    simp at h2
    omega
theorem rest_nil {l : List UInt8} (h : peekW l = []) : restW l = [] := by
  unfold restW
  rw [peek_nil h]
  simp
theorem rest_lt {l : List UInt8} (h : peekW l ≠ []) : (restW l).length < l.length := by
  have h1 := skip_len l
  cases e : skip l with
  | nil => unfold peekW at h; rw [e] at h; simp at h
  | cons c r =>
    have := plen_pos c r
    unfold restW
    rw [e, List.length_drop]
    rw [e] at h1
    simp only [List.length_cons] at h1 ⊢
    omega

def toksN : Nat → List UInt8 → List (List UInt8)
  | 0, _ => []
  | n + 1, l => if peekW l = [] then [] else peekW l :: toksN n (restW l)
/-- A text's words. -/
def toks (l : List UInt8) : List (List UInt8) := toksN l.length l
theorem toksN_le : ∀ (n m : Nat) (l : List UInt8), l.length ≤ n → l.length ≤ m → toksN n l = toksN m l
  | 0, 0, _, _, _ => rfl
  | 0, m + 1, l, h, _ => by
    obtain rfl : l = [] := List.eq_nil_of_length_eq_zero (by omega)
    rfl
  | n + 1, 0, l, _, h => by
    obtain rfl : l = [] := List.eq_nil_of_length_eq_zero (by omega)
    rfl
  | n + 1, m + 1, l, h, h' => by
    rw [toksN, toksN]
    by_cases hp : peekW l = []
    · rw [if_pos hp, if_pos hp]
    · have := rest_lt hp
      rw [if_neg hp, if_neg hp, toksN_le n m (restW l) (by omega) (by omega)]
theorem toks_none {l : List UInt8} (h : peekW l = []) : toks l = [] := by
  unfold toks
  cases e : l.length with
  | zero => rfl
  | succ n => rw [toksN, if_pos h]
theorem toks_some {l : List UInt8} (h : peekW l ≠ []) : toks l = peekW l :: toks (restW l) := by
  have hlt := rest_lt h
  unfold toks
  cases e : l.length with
  | zero => omega
  | succ n => rw [toksN, if_neg h, toksN_le n _ _ (by omega) (Nat.le_refl _)]

/-- The next word; empty: none. -/
def hdT (ts : List (List UInt8)) : List UInt8 := ts.headD []
theorem peek_toks (l : List UInt8) : peekW l = hdT (toks l) := by
  by_cases h : peekW l = []
  · rw [toks_none h, h]; rfl
  · rw [toks_some h]; rfl
theorem rest_toks (l : List UInt8) : toks (restW l) = (toks l).tail := by
  by_cases h : peekW l = []
  · rw [toks_none h, rest_nil h]; rfl
  · rw [toks_some h]; rfl
theorem skip_toks (l : List UInt8) : toks (skip l) = toks l := by
  by_cases h : peekW l = []
  · rw [toks_none h, toks_none (by rw [peek_skip]; exact h)]
  · rw [toks_some h, toks_some (by rw [peek_skip]; exact h), peek_skip, rest_skip]

def wT (ts : List (List UInt8)) (E : Int) : Int := if hdT ts = [] then failE E 8 else E
theorem wE_toks (l : List UInt8) (E : Int) : wE l E = wT (toks l) E := by unfold wE wT; rw [peek_toks]
def bindT : Nat → List (List UInt8) → List (List UInt8) → Int → List (List UInt8) × List (List UInt8) × Int
  | 0, ns, ts, E => (ns, ts, E)
  | m + 1, ns, ts, E => bindT m (ns ++ [hdT ts]) ts.tail (if nameB (hdT ts) = false then failE (wT ts E) 7 else wT ts E)
abbrev TermTF := List (List UInt8) → List (List UInt8) → Int → (Int × Int × F) × List (List UInt8) × Int
def argsT (T : TermTF) : List UInt8 → F → List (List UInt8) → List (List UInt8) → Int → F × List (List UInt8) × Int
  | [], A, _, ts, E => (A, ts, E)
  | c :: sh, A, ns, ts, E =>
    argsT T sh (snoc A (T (bindT (c.toNat - 48) ns ts E).1 (bindT (c.toNat - 48) ns ts E).2.1 (if 8 < (bindT (c.toNat - 48) ns ts E).1.length then failE (bindT (c.toNat - 48) ns ts E).2.2 5 else (bindT (c.toNat - 48) ns ts E).2.2)).1) ns
      (T (bindT (c.toNat - 48) ns ts E).1 (bindT (c.toNat - 48) ns ts E).2.1 (if 8 < (bindT (c.toNat - 48) ns ts E).1.length then failE (bindT (c.toNat - 48) ns ts E).2.2 5 else (bindT (c.toNat - 48) ns ts E).2.2)).2.1
      (T (bindT (c.toNat - 48) ns ts E).1 (bindT (c.toNat - 48) ns ts E).2.1 (if 8 < (bindT (c.toNat - 48) ns ts E).1.length then failE (bindT (c.toNat - 48) ns ts E).2.2 5 else (bindT (c.toNat - 48) ns ts E).2.2)).2.2
def headKT (ts : List (List UInt8)) : Int := if 0 < kindOf (hdT ts) ∧ shpL (kindOf (hdT ts)) ≠ [] then kindOf (hdT ts) else 5
def headTT (ts : List (List UInt8)) : List (List UInt8) := if 0 < kindOf (hdT ts) ∧ shpL (kindOf (hdT ts)) ≠ [] then ts.tail else ts
def headET (ts : List (List UInt8)) (E : Int) : Int := if 0 < kindOf (hdT ts) ∧ shpL (kindOf (hdT ts)) ≠ [] then wT ts E else E
def tailET (ts : List (List UInt8)) (E : Int) : Int := if hdT ts = [41] then wT ts E else failE (wT ts E) 2
/-- A term of words, so many levels at most. -/
def termT (ds : List (List UInt8)) : Nat → TermTF
  | 0 => fun _ ts E => ((0, 0, .nil), ts, failE E 9)
  | n + 1 => fun ns ts E =>
    if E ≠ 0 then ((0, 0, .nil), ts, E)
    else if hdT ts = [40] then
      ((headKT ts.tail, 0, (argsT (termT ds n) (shpL (headKT ts.tail)) .nil ns (headTT ts.tail) (headET ts.tail (wT ts E))).1),
        (argsT (termT ds n) (shpL (headKT ts.tail)) .nil ns (headTT ts.tail) (headET ts.tail (wT ts E))).2.1.tail,
        tailET (argsT (termT ds n) (shpL (headKT ts.tail)) .nil ns (headTT ts.tail) (headET ts.tail (wT ts E))).2.1 (argsT (termT ds n) (shpL (headKT ts.tail)) .nil ns (headTT ts.tail) (headET ts.tail (wT ts E))).2.2)
    else ((atomS ns ds (hdT ts) (wT ts E)).1, ts.tail, (atomS ns ds (hdT ts) (wT ts E)).2)

theorem bindS_toks : ∀ (m : Nat) (ns : List (List UInt8)) (l : List UInt8) (E : Int), (bindS m ns l E).1 = (bindT m ns (toks l) E).1 ∧ toks (bindS m ns l E).2.1 = (bindT m ns (toks l) E).2.1 ∧ (bindS m ns l E).2.2 = (bindT m ns (toks l) E).2.2
  | 0, _, _, _ => ⟨rfl, rfl, rfl⟩
  | m + 1, ns, l, E => by
    rw [bindS, bindT, ← peek_toks, ← wE_toks, ← rest_toks]
    exact bindS_toks m _ _ _
theorem argsS_toks {S : TermF} {T : TermTF} (h : ∀ ns l E, (S ns l E).1 = (T ns (toks l) E).1 ∧ toks (S ns l E).2.1 = (T ns (toks l) E).2.1 ∧ (S ns l E).2.2 = (T ns (toks l) E).2.2) :
    ∀ (sh : List UInt8) (A : F) (ns : List (List UInt8)) (l : List UInt8) (E : Int), (argsS S sh A ns l E).1 = (argsT T sh A ns (toks l) E).1 ∧ toks (argsS S sh A ns l E).2.1 = (argsT T sh A ns (toks l) E).2.1 ∧ (argsS S sh A ns l E).2.2 = (argsT T sh A ns (toks l) E).2.2
  | [], _, _, _, _ => ⟨rfl, rfl, rfl⟩
  | c :: sh, A, ns, l, E => by
    obtain ⟨b1, b2, b3⟩ := bindS_toks (c.toNat - 48) ns l E
    obtain ⟨h1, h2, h3⟩ := h (bindS (c.toNat - 48) ns l E).1 (bindS (c.toNat - 48) ns l E).2.1 (if 8 < (bindS (c.toNat - 48) ns l E).1.length then failE (bindS (c.toNat - 48) ns l E).2.2 5 else (bindS (c.toNat - 48) ns l E).2.2)
    rw [argsS, argsT]
    have ih := argsS_toks h sh (snoc A (S (bindS (c.toNat - 48) ns l E).1 (bindS (c.toNat - 48) ns l E).2.1 (if 8 < (bindS (c.toNat - 48) ns l E).1.length then failE (bindS (c.toNat - 48) ns l E).2.2 5 else (bindS (c.toNat - 48) ns l E).2.2)).1) ns
      (S (bindS (c.toNat - 48) ns l E).1 (bindS (c.toNat - 48) ns l E).2.1 (if 8 < (bindS (c.toNat - 48) ns l E).1.length then failE (bindS (c.toNat - 48) ns l E).2.2 5 else (bindS (c.toNat - 48) ns l E).2.2)).2.1
      (S (bindS (c.toNat - 48) ns l E).1 (bindS (c.toNat - 48) ns l E).2.1 (if 8 < (bindS (c.toNat - 48) ns l E).1.length then failE (bindS (c.toNat - 48) ns l E).2.2 5 else (bindS (c.toNat - 48) ns l E).2.2)).2.2
    rw [h1, h2, h3, b1, b2, b3] at ih
    rw [h1, h3, b1, b2, b3]
    exact ih
theorem headK_toks (l : List UInt8) : headK l = headKT (toks l) := by unfold headK headKT; rw [peek_toks]
theorem headL_toks (l : List UInt8) : toks (headL l) = headTT (toks l) := by
  unfold headL headTT
  rw [peek_toks]
  split
  · rw [rest_skip, rest_toks]
  · rw [skip_toks]
theorem headE_toks (l : List UInt8) (E : Int) : headE l E = headET (toks l) E := by
  unfold headE headET
  rw [peek_toks, wE_toks, skip_toks]
theorem tailE_toks (l : List UInt8) (E : Int) : tailE l E = tailET (toks l) E := by
  unfold tailE tailET
  rw [peek_toks, wE_toks]
theorem termS_toks (ds : List (List UInt8)) : ∀ (n : Nat) (ns : List (List UInt8)) (l : List UInt8) (E : Int), (termS ds n ns l E).1 = (termT ds n ns (toks l) E).1 ∧ toks (termS ds n ns l E).2.1 = (termT ds n ns (toks l) E).2.1 ∧ (termS ds n ns l E).2.2 = (termT ds n ns (toks l) E).2.2
  | 0, _, _, _ => ⟨rfl, rfl, rfl⟩
  | n + 1, ns, l, E => by
    rw [termS, termT]
    dsimp only
    by_cases hE : E ≠ 0
    · rw [if_pos hE, if_pos hE]
      exact ⟨rfl, rfl, rfl⟩
    · rw [if_neg hE, if_neg hE, ← peek_toks]
      by_cases hb : peekW l = [40]
      · rw [if_pos hb, if_pos hb]
        dsimp only
        obtain ⟨a1, a2, a3⟩ := argsS_toks (termS_toks ds n) (shpL (headK (restW l))) .nil ns (headL (restW l)) (headE (restW l) (wE l E))
        rw [headL_toks, rest_toks, headE_toks, rest_toks, wE_toks, headK_toks, rest_toks] at a1 a2 a3
        refine ⟨?_, ?_, ?_⟩
        · rw [headK_toks, rest_toks, headE_toks, rest_toks, wE_toks, a1]
        · rw [rest_toks, headK_toks, rest_toks, headE_toks, rest_toks, wE_toks, a2]
        · rw [tailE_toks, headK_toks, rest_toks, headE_toks, rest_toks, wE_toks, a2, a3]
      · rw [if_neg hb, if_neg hb]
        dsimp only
        rw [wE_toks, rest_toks]
        exact ⟨rfl, rfl, rfl⟩
end Tmx

namespace Tmx
open Go.Deep

theorem failE_sticky {E : Int} (h : E ≠ 0) (e : Int) : failE E e = E := by unfold failE; rw [if_neg h]
theorem failE_zero (e : Int) : failE 0 e = e := rfl
theorem wT_sticky {E : Int} (h : E ≠ 0) (ts : List (List UInt8)) : wT ts E = E := by
  unfold wT
  split
  · exact failE_sticky h _
  · rfl
theorem bindT_sticky : ∀ (m : Nat) (ns ts : List (List UInt8)) (E : Int), E ≠ 0 → (bindT m ns ts E).2.2 = E
  | 0, _, _, _, _ => rfl
  | m + 1, ns, ts, E, h => by
    rw [bindT]
    have : (if nameB (hdT ts) = false then failE (wT ts E) 7 else wT ts E) = E := by
      rw [wT_sticky h]
      split
      · exact failE_sticky h _
      · rfl
    rw [this]
    exact bindT_sticky m _ _ _ h
theorem argsT_sticky {T : TermTF} (hT : ∀ ns ts E, E ≠ 0 → (T ns ts E).2.2 = E) : ∀ (sh : List UInt8) (A : F) (ns ts : List (List UInt8)) (E : Int), E ≠ 0 → (argsT T sh A ns ts E).2.2 = E
  | [], _, _, _, _, _ => rfl
  | c :: sh, A, ns, ts, E, h => by
    rw [argsT]
    have hb := bindT_sticky (c.toNat - 48) ns ts E h
    have h5 : (if 8 < (bindT (c.toNat - 48) ns ts E).1.length then failE (bindT (c.toNat - 48) ns ts E).2.2 5 else (bindT (c.toNat - 48) ns ts E).2.2) = E := by
      rw [hb]
      split
      · exact failE_sticky h _
      · rfl
    rw [h5, hT _ _ _ h]
    exact argsT_sticky hT sh _ _ _ _ h
theorem atomS_sticky (ns ds : List (List UInt8)) (wd : List UInt8) {E : Int} (h : E ≠ 0) : (atomS ns ds wd E).2 = E := by
  unfold atomS atomU atomN atomV atomD
  repeat' split
  all_goals first | rfl | exact failE_sticky h _
theorem termT_sticky (ds : List (List UInt8)) : ∀ (n : Nat) (ns ts : List (List UInt8)) (E : Int), E ≠ 0 → (termT ds n ns ts E).2.2 = E
  | 0, _, _, _, h => failE_sticky h _
  | n + 1, _, _, _, h => by rw [termT]; dsimp only; rw [if_pos h]

theorem tail_suf {ts us : List (List UInt8)} (h : us <:+ ts) : us.tail <:+ ts := (List.tail_suffix us).trans h
theorem bindT_suf : ∀ (m : Nat) (ns ts : List (List UInt8)) (E : Int), (bindT m ns ts E).2.1 <:+ ts
  | 0, _, _, _ => List.suffix_refl _
  | m + 1, ns, ts, E => by rw [bindT]; exact (bindT_suf m _ _ _).trans (List.tail_suffix ts)
theorem argsT_suf {T : TermTF} (hT : ∀ ns ts E, (T ns ts E).2.1 <:+ ts) : ∀ (sh : List UInt8) (A : F) (ns ts : List (List UInt8)) (E : Int), (argsT T sh A ns ts E).2.1 <:+ ts
  | [], _, _, _, _ => List.suffix_refl _
  | c :: sh, A, ns, ts, E => by
    rw [argsT]
    exact (argsT_suf hT sh _ _ _ _).trans ((hT _ _ _).trans (bindT_suf _ _ _ _))
theorem headTT_suf (ts : List (List UInt8)) : headTT ts <:+ ts := by
  unfold headTT
  split
  · exact List.tail_suffix ts
  · exact List.suffix_refl _
theorem termT_suf (ds : List (List UInt8)) : ∀ (n : Nat) (ns ts : List (List UInt8)) (E : Int), (termT ds n ns ts E).2.1 <:+ ts
  | 0, _, _, _ => List.suffix_refl _
  | n + 1, ns, ts, E => by
    rw [termT]
    dsimp only
    split
    · exact List.suffix_refl _
    · split
      · exact tail_suf ((argsT_suf (termT_suf ds n) _ _ _ _ _).trans ((headTT_suf _).trans (List.tail_suffix ts)))
      · exact List.tail_suffix ts

/-- Words are never empty. -/
def Full (ts : List (List UInt8)) : Prop := ∀ w ∈ ts, w ≠ []
theorem Full.suf {ts us : List (List UInt8)} (h : Full ts) (hs : us <:+ ts) : Full us := fun w hw => h w (hs.mem hw)
theorem toksN_full : ∀ (n : Nat) (l : List UInt8), Full (toksN n l)
  | 0, _ => fun w hw => by simp [toksN] at hw
  | n + 1, l => by
    rw [toksN]
    split
    · intro w hw; simp at hw
    · rename_i h
      intro w hw
      rcases List.mem_cons.1 hw with rfl | hw
      · exact h
      · exact toksN_full n _ w hw
theorem toks_full (l : List UInt8) : Full (toks l) := toksN_full _ l

abbrev GotK := Except Int ((Int × Int × F) × List (List UInt8))
/-- So many names. -/
def namesK : Nat → List (List UInt8) → List (List UInt8) → Except Int (List (List UInt8) × List (List UInt8))
  | 0, ns, ts => .ok (ns, ts)
  | _ + 1, _, [] => .error 8
  | m + 1, ns, w :: r => if nameB w = true then namesK m (ns ++ [w]) r else .error 7
/-- What follows where there is no error. -/
def andX {α β : Type} (e : Except Int α) (f : α → Except Int β) : Except Int β := match e with
  | .error x => .error x
  | .ok a => f a
theorem andX_ok {α β : Type} (a : α) (f : α → Except Int β) : andX (.ok a) f = f a := rfl
theorem andX_error {α β : Type} (x : Int) (f : α → Except Int β) : andX (.error x) f = .error x := rfl
def argsK (T : List (List UInt8) → List (List UInt8) → GotK) : List UInt8 → F → List (List UInt8) → List (List UInt8) → Except Int (F × List (List UInt8))
  | [], A, _, ts => .ok (A, ts)
  | c :: sh, A, ns, ts => andX (namesK (c.toNat - 48) ns ts) fun p => if 8 < p.1.length then .error 5 else andX (T p.1 p.2) fun x => argsK T sh (snoc A x.1) ns x.2
def closeK (k : Int) : Except Int (F × List (List UInt8)) → GotK
  | .error e => .error e
  | .ok (_, []) => .error 8
  | .ok (A, w :: r) => if w = [41] then .ok ((k, 0, A), r) else .error 2
def atomK (ns ds : List (List UInt8)) (w : List UInt8) (r : List (List UInt8)) : GotK := if (atomS ns ds w 0).2 = 0 then .ok ((atomS ns ds w 0).1, r) else .error (atomS ns ds w 0).2
/-- A term of words, or the first error. -/
def termK (ds : List (List UInt8)) : Nat → List (List UInt8) → List (List UInt8) → GotK
  | 0, _, _ => .error 9
  | _ + 1, _, [] => .error 8
  | n + 1, ns, w :: r => if w = [40] then closeK (headKT r) (argsK (termK ds n) (shpL (headKT r)) .nil ns (headTT r)) else atomK ns ds w r

def convN (X : List (List UInt8) × List (List UInt8) × Int) : Except Int (List (List UInt8) × List (List UInt8)) := if X.2.2 = 0 then .ok (X.1, X.2.1) else .error X.2.2
def convA (X : F × List (List UInt8) × Int) : Except Int (F × List (List UInt8)) := if X.2.2 = 0 then .ok (X.1, X.2.1) else .error X.2.2
def convT (X : (Int × Int × F) × List (List UInt8) × Int) : GotK := if X.2.2 = 0 then .ok (X.1, X.2.1) else .error X.2.2

theorem namesK_eq : ∀ (m : Nat) (ns ts : List (List UInt8)), Full ts → namesK m ns ts = convN (bindT m ns ts 0)
  | 0, _, _, _ => rfl
  | m + 1, ns, [], _ => by
    have h8 : (if nameB (hdT []) = false then failE (wT [] 0) 7 else wT [] 0) = 8 := by
      rw [show hdT [] = [] from rfl, show wT [] 0 = 8 from rfl, show nameB [] = false by decide]
      rfl
    rw [namesK, bindT, h8]
    unfold convN
    rw [bindT_sticky m _ _ 8 (by decide), if_neg (by decide)]
  | m + 1, ns, w :: r, hf => by
    have hw : w ≠ [] := hf w (by simp)
    have hwT : wT (w :: r) 0 = 0 := by unfold wT hdT; rw [if_neg (by simpa using hw)]
    rw [namesK, bindT, hwT]
    have hd : hdT (w :: r) = w := rfl
    rw [hd, List.tail_cons]
    by_cases hn : nameB w = true
    · rw [if_pos hn, if_neg (by simp [hn]), namesK_eq m _ _ (hf.suf (List.suffix_cons w r))]
    · rw [if_neg hn, if_pos (by simpa using hn)]
      unfold convN
      rw [failE_zero, bindT_sticky m _ _ 7 (by decide), if_neg (by decide)]
theorem argsK_eq {K : List (List UInt8) → List (List UInt8) → GotK} {T : TermTF} (h : ∀ ns ts, Full ts → K ns ts = convT (T ns ts 0)) (hst : ∀ ns ts E, E ≠ 0 → (T ns ts E).2.2 = E) (hsu : ∀ ns ts E, (T ns ts E).2.1 <:+ ts) :
    ∀ (sh : List UInt8) (A : F) (ns ts : List (List UInt8)), Full ts → argsK K sh A ns ts = convA (argsT T sh A ns ts 0) := by
  intro sh
  induction sh with
  | nil => intro A ns ts hf; rfl
  | cons c sh ih =>
    intro A ns ts hf
    rw [argsK, argsT, namesK_eq _ _ _ hf]
    have hfb : Full (bindT (c.toNat - 48) ns ts 0).2.1 := hf.suf (bindT_suf _ _ _ _)
    generalize bindT (c.toNat - 48) ns ts 0 = b at hfb ⊢
    unfold convN
    by_cases hb : b.2.2 = 0
    · rw [if_pos hb, andX_ok]
      by_cases h8 : 8 < b.1.length
      · rw [if_pos h8, if_pos h8]
        rw [hb, failE_zero, hst _ _ 5 (by decide)]
        unfold convA
        rw [argsT_sticky hst _ _ _ _ 5 (by decide), if_neg (by decide)]
      · rw [if_neg h8, if_neg h8]
        rw [hb, h _ _ hfb]
        have hft : Full (T b.1 b.2.1 0).2.1 := hfb.suf (hsu _ _ _)
        generalize T b.1 b.2.1 0 = x at hft ⊢
        unfold convT
        by_cases hx : x.2.2 = 0
        · rw [if_pos hx, andX_ok, ih _ _ _ hft, hx]
        · rw [if_neg hx, andX_error]
          unfold convA
          rw [argsT_sticky hst _ _ _ _ _ hx, if_neg hx]
    · rw [if_neg hb, andX_error]
      have h5 : (if 8 < b.1.length then failE b.2.2 5 else b.2.2) = b.2.2 := by
        split
        · exact failE_sticky hb _
        · rfl
      rw [h5, hst _ _ _ hb]
      unfold convA
      rw [argsT_sticky hst _ _ _ _ _ hb, if_neg hb]
theorem atomS_nil (ns ds : List (List UInt8)) : (atomS ns ds [] 8).2 = 8 := atomS_sticky ns ds [] (by decide)
theorem termK_eq (ds : List (List UInt8)) : ∀ (n : Nat) (ns ts : List (List UInt8)), Full ts → termK ds n ns ts = convT (termT ds n ns ts 0)
  | 0, _, _, _ => rfl
  | n + 1, ns, [], _ => by
    rw [termK, termT]
    dsimp only
    rw [if_neg (show ¬ ((0 : Int) ≠ 0) by simp), if_neg (show ¬ hdT [] = [40] by decide)]
    unfold convT
    dsimp only
    rw [show wT [] 0 = 8 from rfl, show hdT [] = [] from rfl, atomS_nil, if_neg (by decide)]
  | n + 1, ns, w :: r, hf => by
    have hw : w ≠ [] := hf w (by simp)
    have hwT : wT (w :: r) 0 = 0 := by unfold wT hdT; rw [if_neg (by simpa using hw)]
    have hfr : Full r := hf.suf (List.suffix_cons w r)
    rw [termK, termT]
    dsimp only
    rw [if_neg (show ¬ ((0 : Int) ≠ 0) by simp), hwT, List.tail_cons, show hdT (w :: r) = w from rfl]
    by_cases hb : w = [40]
    · rw [if_pos hb, if_pos hb]
      have hE : headET r 0 = 0 := by
        unfold headET
        split
        · rename_i hk
          unfold wT
          rw [if_neg (by intro e; rw [e] at hk; exact absurd hk.1 (by decide))]
        · rfl
      rw [hE]
      have ha := argsK_eq (termK_eq ds n) (termT_sticky ds n) (termT_suf ds n) (shpL (headKT r)) .nil ns (headTT r) (hfr.suf (headTT_suf r))
      have hfa : Full (argsT (termT ds n) (shpL (headKT r)) .nil ns (headTT r) 0).2.1 := hfr.suf ((argsT_suf (termT_suf ds n) _ _ _ _ _).trans (headTT_suf r))
      rw [ha]
      generalize argsT (termT ds n) (shpL (headKT r)) .nil ns (headTT r) 0 = a at hfa ⊢
      obtain ⟨A, us, E⟩ := a
      unfold convA convT
      dsimp only at hfa ⊢
      by_cases hE2 : E = 0
      · subst hE2
        rw [if_pos rfl]
        cases us with
        | nil => rfl
        | cons u us =>
          have hu : u ≠ [] := hfa u (by simp)
          have hwu : wT (u :: us) 0 = 0 := by unfold wT hdT; rw [if_neg (by simpa using hu)]
          rw [closeK]
          unfold tailET
          rw [hwu, show hdT (u :: us) = u from rfl]
          by_cases h41 : u = [41]
          · rw [if_pos h41, if_pos h41, if_pos rfl, List.tail_cons]
          · rw [if_neg h41, if_neg h41, failE_zero, if_neg (by decide)]
      · rw [if_neg hE2, closeK]
        have ht : tailET us E = E := by
          unfold tailET
          rw [wT_sticky hE2]
          split
          · rfl
          · exact failE_sticky hE2 _
        rw [ht, if_neg hE2]
    · rw [if_neg hb, if_neg hb]
      unfold atomK convT
      dsimp only
end Tmx
