/-
  Words sign by sign; words joined to a text are its words; blanks around brackets are no matter.
-/
import Derived.Test.YtcgpjihfligdbaaDoorPlainP
namespace Tmx
open Go.Deep

/-- A blank, or a line feed. -/
def isB (c : UInt8) : Prop := c = 32 ∨ c = 10
/-- A sign that ends a word. -/
def isE (c : UInt8) : Prop := c = 32 ∨ c = 10 ∨ c = 40 ∨ c = 41
/-- Signs of a word. -/
def Wd (a : List UInt8) : Prop := ∀ c ∈ a, ¬ isE c

theorem wlen_word : ∀ (a r : List UInt8), Wd a → (r = [] ∨ ∃ c r', r = c :: r' ∧ isE c) → wlen (a ++ r) = a.length
  | [], r, _, h => by
    rcases h with rfl | ⟨c, r', rfl, hc⟩
    · rfl
    · exact (wlen_zero c r').2 hc
  | c :: a, r, hw, h => by
    rw [List.cons_append, wlen_succ c _ (hw c (by simp)), wlen_word a r (fun d hd => hw d (by simp [hd])) h, List.length_cons]
theorem toks_word {a r : List UInt8} (ha : a ≠ []) (hw : Wd a) (h : r = [] ∨ ∃ c r', r = c :: r' ∧ isE c) : toks (a ++ r) = a :: toks r := by
  have hl : wlen (a ++ r) = a.length := wlen_word a r hw h
  have hs : skip (a ++ r) = a ++ r := by
    cases a with
    | nil => exact absurd rfl ha
    | cons c a => exact skip_self c _ (fun e => hw c (by simp) (by rcases e with e | e; exact Or.inl e; exact Or.inr (Or.inl e)))
  have hp : plen (a ++ r) = a.length := by
    unfold plen
    rw [hl, if_neg (fun e => ha (List.eq_nil_of_length_eq_zero e.1))]
  have h1 : peekW (a ++ r) = a := by unfold peekW; rw [hs, hp]; simp
  have h2 : restW (a ++ r) = r := by unfold restW; rw [hs, hp]; simp
  rw [toks_some (by rw [h1]; exact ha), h1, h2]
theorem toks_blank {c : UInt8} (hc : isB c) (r : List UInt8) : toks (c :: r) = toks r := by
  have : skip (c :: r) = skip r := by rw [skip]; exact if_pos hc
  rw [← skip_toks (c :: r), this, skip_toks]
theorem toks_bracket {c : UInt8} (hc : c = 40 ∨ c = 41) (r : List UInt8) : toks (c :: r) = [c] :: toks r := by
  have hs : skip (c :: r) = c :: r := skip_self c r (by rcases hc with rfl | rfl <;> decide)
  have hp : plen (c :: r) = 1 := by
    unfold plen
    rw [if_pos ⟨(wlen_zero c r).2 (by rcases hc with rfl | rfl <;> simp), by simp⟩]
  have h1 : peekW (c :: r) = [c] := by unfold peekW; rw [hs, hp]; rfl
  have h2 : restW (c :: r) = r := by unfold restW; rw [hs, hp]; rfl
  rw [toks_some (by rw [h1]; simp), h1, h2]
theorem toks_nil : toks [] = [] := rfl

/-- A word that has come to its end. -/
def flush (a : List UInt8) : List (List UInt8) := if a = [] then [] else [a]
/-- Words, sign by sign, behind the signs of one. -/
def tk : List UInt8 → List UInt8 → List (List UInt8)
  | a, [] => flush a
  | a, c :: r => if c = 32 ∨ c = 10 then flush a ++ tk [] r else if c = 40 ∨ c = 41 then flush a ++ ([c] :: tk [] r) else tk (a ++ [c]) r
theorem toks_flush {a r : List UInt8} (hw : Wd a) (h : r = [] ∨ ∃ c r', r = c :: r' ∧ isE c) : toks (a ++ r) = flush a ++ toks r := by
  unfold flush
  by_cases ha : a = []
  · rw [if_pos ha, ha]; rfl
  · rw [if_neg ha, toks_word ha hw h]; rfl
theorem toks_tk : ∀ (l a : List UInt8), Wd a → toks (a ++ l) = tk a l
  | [], a, hw => by rw [toks_flush hw (Or.inl rfl), toks_nil, tk, List.append_nil]
  | c :: r, a, hw => by
    rw [tk]
    by_cases hb : c = 32 ∨ c = 10
    · rw [if_pos hb, toks_flush hw (Or.inr ⟨c, r, rfl, by rcases hb with h | h; exact Or.inl h; exact Or.inr (Or.inl h)⟩), toks_blank hb, ← toks_tk r [] (fun c hc => by simp at hc)]
      rfl
    · by_cases hk : c = 40 ∨ c = 41
      · rw [if_neg hb, if_pos hk, toks_flush hw (Or.inr ⟨c, r, rfl, Or.inr (Or.inr hk)⟩), toks_bracket hk, ← toks_tk r [] (fun c hc => by simp at hc)]
        rfl
      · rw [if_neg hb, if_neg hk, ← toks_tk r (a ++ [c]) (fun d hd => by
          rcases List.mem_append.1 hd with hd | hd
          · exact hw d hd
          · rw [List.mem_singleton.1 hd]
            rintro (h | h | h)
            · exact hb (Or.inl h)
            · exact hb (Or.inr h)
            · exact hk h)]
        rw [List.append_assoc]
        rfl
/-- A text's words, sign by sign. -/
theorem toks_eq (l : List UInt8) : toks l = tk [] l := toks_tk l [] (fun c hc => by simp at hc)

/-- Blanks, and line feeds, around each bracket. -/
def spread : List UInt8 → List UInt8
  | [] => []
  | c :: r => (if c = 40 ∨ c = 41 then [32, c, 10] else [c]) ++ spread r
theorem flush_nil : flush [] = [] := rfl
theorem tk_spread : ∀ (l a : List UInt8), tk a (spread l) = tk a l
  | [], _ => rfl
  | c :: r, a => by
    rw [spread]
    by_cases hk : c = 40 ∨ c = 41
    · have hb : ¬ (c = 32 ∨ c = 10) := by rcases hk with rfl | rfl <;> decide
      rw [if_pos hk, List.cons_append, List.cons_append, List.cons_append, List.nil_append, tk, if_pos (by simp), tk, if_neg hb, if_pos hk, tk, if_pos (by simp), flush_nil, List.nil_append, List.nil_append, tk_spread r [], tk.eq_2, if_neg hb, if_pos hk]
    · rw [if_neg hk, List.singleton_append, tk, tk.eq_2, tk_spread r [], tk_spread r (a ++ [c])]
/-- Blanks are no matter. -/
theorem toks_spread (l : List UInt8) : toks (spread l) = toks l := by rw [toks_eq, toks_eq, tk_spread]

/-- What stands between two words. -/
def sepT (a b : List UInt8) : List UInt8 := if a = [40] ∨ b = [41] then [] else [32]
/-- Words as a text: one blank between, but none behind an opening bracket, nor ahead of a closing one. -/
def joinT : List (List UInt8) → List UInt8
  | [] => []
  | [a] => a
  | a :: b :: r => a ++ (sepT a b ++ joinT (b :: r))
/-- A word that may be written. -/
def Tok (a : List UInt8) : Prop := a = [40] ∨ a = [41] ∨ (a ≠ [] ∧ Wd a)
theorem joinT_head (b : List UInt8) (r : List (List UInt8)) : ∃ t, joinT (b :: r) = b ++ t := by
  cases r with
  | nil => exact ⟨[], by simp [joinT]⟩
  | cons c r => exact ⟨_, rfl⟩
theorem toks_join : ∀ (ts : List (List UInt8)), (∀ a ∈ ts, Tok a) → toks (joinT ts) = ts
  | [], _ => rfl
  | [a], h => by
    rw [joinT]
    rcases h a (by simp) with rfl | rfl | ⟨h1, h2⟩
    · exact toks_bracket (Or.inl rfl) []
    · exact toks_bracket (Or.inr rfl) []
    · have := toks_word (r := []) h1 h2 (Or.inl rfl)
      rw [List.append_nil] at this
      exact this
  | a :: b :: r, h => by
    have ih := toks_join (b :: r) (fun x hx => h x (by simp [hx]))
    have hsep : toks (sepT a b ++ joinT (b :: r)) = b :: r := by
      unfold sepT
      split
      · exact ih
      · rw [List.singleton_append, toks_blank (Or.inl rfl), ih]
    rw [joinT]
    rcases h a (by simp) with rfl | rfl | ⟨h1, h2⟩
    · rw [List.singleton_append, toks_bracket (Or.inl rfl), hsep]
    · rw [List.singleton_append, toks_bracket (Or.inr rfl), hsep]
    · rw [toks_word h1 h2 ?_, hsep]
      right
      unfold sepT
      by_cases hc : a = [40] ∨ b = [41]
      · rw [if_pos hc]
        have hb : b = [41] := by
          rcases hc with e | e
          · exact absurd (h2 40 (by rw [e]; simp)) (by simp [isE])
          · exact e
        obtain ⟨t, ht⟩ := joinT_head b r
        exact ⟨41, t, by rw [ht, hb]; rfl, by simp [isE]⟩
      · rw [if_neg hc]
        exact ⟨32, joinT (b :: r), rfl, by simp [isE]⟩
end Tmx
