/-
  What terms come to, plainly: by name (nothing is shared), with fuel. Thunks, values, and their arguments are data. No program, no memory.
-/
import Derived.Test.YthfjmcomhccbaaaGreatDoorLaidGm
namespace Evx
open Tmx

/-- A maker: how many are bound; how many were, where declarations are worked out; the declarations' bodies. -/
structure Mk where
  bound : Int
  b0 : Int
  D : List (Int × Int × F)

/-- Thunks, values and their arguments, as one: which of them it is (tag), and what it holds. -/
structure Nd where c ::
  tag : Nat
  m : Mk
  k : Int
  n : Int
  f : F
  sub : List Nd
abbrev Th := Nd
abbrev V := Nd
abbrev Ar := Nd
def noMk : Mk := ⟨0, 0, []⟩
namespace Nd
/-- What is worked out later: a term; what is a value; of a value; what came of one; by way of another. -/
abbrev tm (m : Mk) (k n : Int) (f : F) (env : List Th) : Th := ⟨0, m, k, n, f, env⟩
abbrev val (v : V) : Th := ⟨1, noMk, 0, 0, .nil, [v]⟩
abbrev of (v : V) : Th := ⟨2, noMk, 0, 0, .nil, [v]⟩
abbrev came (v : V) : Th := ⟨3, noMk, 0, 0, .nil, [v]⟩
abbrev via (t : Th) : Th := ⟨4, noMk, 0, 0, .nil, [t]⟩
/-- A value: its kind, its number, its arguments. -/
abbrev mk (kind n : Int) (args : List Ar) : V := ⟨5, noMk, kind, n, .nil, args⟩
/-- An argument of a value: plain; a term that has some bound; what 'Under' makes of a value. -/
abbrev plain (t : Th) : Ar := ⟨6, noMk, 0, 0, .nil, [t]⟩
abbrev under (m : Mk) (k n : Int) (f : F) (env : List Th) : Ar := ⟨7, m, k, n, f, env⟩
abbrev underU (bnd : Int) (b : Th) : Ar := ⟨8, noMk, bnd, 0, .nil, [b]⟩
abbrev kind (v : V) : Int := v.k
abbrev num (v : V) : Int := v.n
abbrev args (v : V) : List Ar := v.sub
end Nd
/-- Is it of that kind, and of so many? -/
def Nd.is (v : V) (k : Int) (m : Nat) : Bool := v.kind == k && v.args.length == m

/-- What so many were bound ahead of. -/
def free (n : Int) : V := .mk 1 n []
/-- Numbers that do not wrap. -/
def mild (n : Int) : Bool := decide (-1099511627776 ≤ n) && decide (n ≤ 1099511627776)

/-- What was bound n binders ago. -/
def meant (b : Int) : Nat → List Th → Th
  | n, [] => .val (free (b - 1 - n))
  | 0, t :: _ => t
  | n + 1, _ :: env => meant b n env
/-- A term's thunk: a variable's is what it means. -/
def later (m : Mk) (k n : Int) (f : F) (env : List Th) : Th := if k = 1 then meant m.bound n.toNat env else .tm m k n f env
def argOf (m : Mk) (k n : Int) (f : F) (env : List Th) (binds : Int) : Ar := if binds = 0 then .plain (later m k n f env) else .under m k n f env
/-- The arguments of a term of kind K, from number i on. -/
def argsOf (m : Mk) (env : List Th) (K : Int) : Int → F → List Ar
  | _, .nil => []
  | i, .node _ _ a l r => argOf m a.1 a.2 l env (bindsAt K i) :: argsOf m env K (i + 1) r
/-- Do variables among the terms have numbers that may be asked for? -/
def fine : F → Bool
  | .nil => true
  | .node _ _ a _ r => (a.1 != 1 || (decide (0 ≤ a.2) && mild a.2)) && fine r

def plainOf : List Ar → Nat → Option Th
  | l, i => match l[i]? with | some ⟨6, ⟨0, 0, []⟩, 0, 0, .nil, [t]⟩ => some t | _ => none
/-- What an argument is of those. -/
def appl (a : Ar) (bs : List Th) : Option Th :=
  match a with
  | ⟨7, m, k, n, f, env⟩ => some (.tm m k n f (bs.reverse ++ env))
  | ⟨8, _, bnd, _, _, [b]⟩ => match bs with | ⟨1, ⟨0, 0, []⟩, 0, 0, .nil, [⟨5, ⟨0, 0, []⟩, 1, x, .nil, []⟩]⟩ :: _ => if x = bnd then some (.via b) else none | _ => none
  | _ => none
def underOf (l : List Ar) (i : Nat) (bs : List Th) : Option Th := match l[i]? with | some a => appl a bs | none => none

/-- Less of a TmRec: its number is another one. -/
def lessOf (v : V) (n : Th) : V := .mk 17 0 (v.args.take 3 ++ [.plain n])

def Nd.isUnder : Ar → Bool
  | ⟨6, _, _, _, _, _⟩ => false
  | _ => true
/-- A TmRec's arguments: the first and the third one have some bound. -/
def shaped (l : List Ar) : Bool := match l with
  | [a, ⟨6, ⟨0, 0, []⟩, 0, 0, .nil, [_]⟩, b, ⟨6, ⟨0, 0, []⟩, 0, 0, .nil, [_]⟩] => a.isUnder && b.isUnder
  | _ => false

def countV (rec : Th → Option V) (v : V) : Option V :=
  match plainOf v.args 3 with
  | none => none
  | some a => match rec a with
    | none => none
    | some x =>
      if x.is 15 0 then (match plainOf v.args 1 with | some z => rec z | none => none)
      else if x.is 16 1 then (if shaped v.args = true then (match plainOf x.args 0 with
        | some n => (match underOf v.args 2 [n, .came (lessOf v n)] with | some d => rec d | none => none)
        | none => none) else none)
      else some v
def callV (rec : Th → Option V) (v : V) : Option V :=
  match plainOf v.args 0 with
  | none => none
  | some a => match rec a with
    | none => none
    | some f =>
      if f.is 4 2 then (match plainOf v.args 1 with
        | some x => (match underOf f.args 1 [x] with | some d => rec d | none => none)
        | none => none)
      else some v
def halfV (rec : Th → Option V) (v : V) (i : Nat) : Option V :=
  match plainOf v.args 0 with
  | none => none
  | some a => match rec a with
    | none => none
    | some p =>
      if p.is 7 4 then (match plainOf p.args i with | some x => rec x | none => none)
      else some v
def settleV (rec : Th → Option V) (v : V) : Option V :=
  if v.is 5 2 then callV rec v
  else if v.is 8 1 then halfV rec v 2
  else if v.is 9 1 then halfV rec v 3
  else if v.is 17 4 then countV rec v
  else some v
def tmV (rec : Th → Option V) (m : Mk) (k n : Int) (f : F) (env : List Th) : Option V :=
  if k = 1 then (if 0 ≤ n ∧ mild n = true ∧ mild m.bound = true then rec (meant m.bound n.toNat env) else none)
  else if k = 18 then (if 0 ≤ n then
    (match m.D[n.toNat]? with | some d => rec (.tm ⟨m.b0, m.b0, m.D⟩ d.1 d.2.1 d.2.2 []) | none => none) else none)
  else if fine f = true ∧ mild m.bound = true ∧ len f ≤ 1000 then settleV rec (.mk k n (argsOf m env k 0 f)) else none

/-- What a thunk comes to. -/
def ev : Nat → Th → Option V
  | 0, t => match t with | ⟨1, _, _, _, _, [v]⟩ => some v | _ => none
  | s + 1, t => match t with
    | ⟨1, _, _, _, _, [v]⟩ => some v
    | ⟨0, m, k, n, f, env⟩ => tmV (ev s) m k n f env
    | ⟨2, _, _, _, _, [v]⟩ => settleV (ev s) v
    | ⟨3, _, _, _, _, [v]⟩ => countV (ev s) v
    | ⟨4, _, _, _, _, [t]⟩ => ev s t
    | _ => none

/-- More fuel does no harm. -/
def Le (r r' : Th → Option V) : Prop := ∀ t v, r t = some v → r' t = some v
theorem count_mono {r r' : Th → Option V} (h : Le r r') (v x : V) (e : countV r v = some x) : countV r' v = some x := by
  unfold countV at *
  split at e
  · cases e
  · rename_i a ha
    split at e
    · cases e
    · rename_i y hy
      simp only [h _ _ hy]
      split at e
      · split at e
        · rw [if_pos (by assumption)]; exact h _ _ e
        · cases e
      · split at e
        · split at e
          · split at e
            · rename_i n hn
              split at e
              · rename_i d hd
                rw [if_neg (by assumption), if_pos (by assumption), if_pos (by assumption)]; exact h _ _ e
              · cases e
            · cases e
          · cases e
        · rw [if_neg (by assumption), if_neg (by assumption)]; exact e
theorem call_mono {r r' : Th → Option V} (h : Le r r') (v x : V) (e : callV r v = some x) : callV r' v = some x := by
  unfold callV at *
  split at e
  · cases e
  · rename_i a ha
    split at e
    · cases e
    · rename_i y hy
      simp only [h _ _ hy]
      split at e
      · split at e
        · rename_i n hn
          split at e
          · rename_i d hd
            rw [if_pos (by assumption)]; exact h _ _ e
          · cases e
        · cases e
      · rw [if_neg (by assumption)]; exact e
theorem half_mono {r r' : Th → Option V} (h : Le r r') (v x : V) (i : Nat) (e : halfV r v i = some x) : halfV r' v i = some x := by
  unfold halfV at *
  split at e
  · cases e
  · rename_i a ha
    split at e
    · cases e
    · rename_i y hy
      simp only [h _ _ hy]
      split at e
      · split at e
        · rename_i n hn
          rw [if_pos (by assumption)]; exact h _ _ e
        · cases e
      · rw [if_neg (by assumption)]; exact e
theorem settle_mono {r r' : Th → Option V} (h : Le r r') (v x : V) (e : settleV r v = some x) : settleV r' v = some x := by
  unfold settleV at *
  split at e
  · rw [if_pos (by assumption)]; exact call_mono h _ _ e
  · rw [if_neg (by assumption)]
    split at e
    · rw [if_pos (by assumption)]; exact half_mono h _ _ _ e
    · rw [if_neg (by assumption)]
      split at e
      · rw [if_pos (by assumption)]; exact half_mono h _ _ _ e
      · rw [if_neg (by assumption)]
        split at e
        · rw [if_pos (by assumption)]; exact count_mono h _ _ e
        · rw [if_neg (by assumption)]; exact e
theorem tm_mono {r r' : Th → Option V} (h : Le r r') (m : Mk) (k n : Int) (f : F) (env : List Th) (x : V) (e : tmV r m k n f env = some x) : tmV r' m k n f env = some x := by
  unfold tmV at *
  split at e
  · rw [if_pos (by assumption)]
    split at e
    · rw [if_pos (by assumption)]; exact h _ _ e
    · cases e
  · rw [if_neg (by assumption)]
    split at e
    · rw [if_pos (by assumption)]
      split at e
      · rw [if_pos (by assumption)]
        split at e
        · exact h _ _ e
        · cases e
      · cases e
    · rw [if_neg (by assumption)]
      split at e
      · rw [if_pos (by assumption)]; exact settle_mono h _ _ e
      · cases e
theorem ev_succ : ∀ s, Le (ev s) (ev (s + 1))
  | 0, t, v, e => by
    unfold ev at e ⊢
    dsimp only at e ⊢
    split at e
    · exact e
    · cases e
  | s + 1, t, v, e => by
    have ih := ev_succ s
    unfold ev at e ⊢
    split at e
    · exact e
    · exact tm_mono ih _ _ _ _ _ _ e
    · exact settle_mono ih _ _ e
    · exact count_mono ih _ _ e
    · exact ih _ _ e
    · cases e
theorem ev_mono {s s' : Nat} (h : s ≤ s') : Le (ev s) (ev s') := by
  induction h with
  | refl => exact fun _ _ e => e
  | step _ ih => exact fun t v e => ev_succ _ _ _ (ih t v e)

/-- It comes to that. -/
def Yields (t : Th) (v : V) : Prop := ∃ s, ev s t = some v
theorem Yields.unique {t : Th} {v v' : V} (h : Yields t v) (h' : Yields t v') : v = v' := by
  obtain ⟨s, e⟩ := h
  obtain ⟨s', e'⟩ := h'
  have a := ev_mono (Nat.le_max_left s s') _ _ e
  have b := ev_mono (Nat.le_max_right s s') _ _ e'
  rw [a] at b
  exact Option.some.inj b
theorem Yields.val (v : V) : Yields (.val v) v := ⟨0, rfl⟩
end Evx
