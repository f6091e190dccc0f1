/-
  How a list of terms lies in memory: three cells a term, one behind the other.
-/
import Derived.Test.YtcgpjihfligdbaaDoorPlain
import Derived.Below
namespace Tmx
open Go Go.Deep Go.RowKit

/-- The terms f lie in w from the cell o of the block b on. -/
def Row (w : World) (b o : Nat) : F → Prop
  | .nil => True
  | .node _ _ a l r =>
    w.cell? ⟨b, o, none⟩ = some (.int .i64 a.1) ∧ w.cell? ⟨b, o + 1, none⟩ = some (.int .i64 a.2) ∧
    (∃ p b' o' cap, w.cell? ⟨b, o + 2, none⟩ = some (.slice p (len l) cap) ∧ (0 < len l → p = some ⟨b', o', none⟩) ∧ Row w b' o' l) ∧
    Row w b (o + 3) r

/-- The slice that begins at p holds the terms f in w. -/
def Sl (w : World) (p : Option Addr) (f : F) : Prop := ∃ b o, (0 < len f → p = some ⟨b, o, none⟩) ∧ Row w b o f

theorem Sl.nil (w : World) (p : Option Addr) : Sl w p .nil := ⟨0, 0, fun h => by simp [len] at h, trivial⟩

theorem Row.below {w w' : World} (h : Below w.heap.size w w') : ∀ (f : F) (b o : Nat), Row w b o f → Row w' b o f
  | .nil, _, _, _ => trivial
  | .node _ _ a l r, b, o, hr => by
    obtain ⟨h1, h2, ⟨p, b', o', cap, h3, h4, h6⟩, h5⟩ := hr
    have hb : b < w.heap.size := World.block_lt_of_cell? w ⟨b, o, none⟩ h1
    exact ⟨by rw [h.cell (p := ⟨b, o, none⟩) hb]; exact h1, by rw [h.cell (p := ⟨b, o + 1, none⟩) hb]; exact h2, ⟨p, b', o', cap, by rw [h.cell (p := ⟨b, o + 2, none⟩) hb]; exact h3, h4, Row.below h l b' o' h6⟩, Row.below h r b (o + 3) h5⟩

theorem Sl.below {w w' : World} (h : Below w.heap.size w w') {p : Option Addr} {f : F} (hs : Sl w p f) : Sl w' p f := by
  obtain ⟨b, o, h1, h2⟩ := hs
  exact ⟨b, o, h1, h2.below h⟩

theorem Sl.drew {w : World} {p : Option Addr} {f : F} (hs : Sl w p f) : Sl w.drew p f := hs.below (Below.refl _ _).drew

/-- The term number i of a row. -/
theorem Row.at {w : World} : ∀ (i : Nat) (f : F) (b o : Nat), Row w b o f → i < len f → ∃ x y a l r p cap, drop i f = .node x y a l r ∧
    w.cell? ⟨b, o + i * 3, none⟩ = some (.int .i64 a.1) ∧ w.cell? ⟨b, o + i * 3 + 1, none⟩ = some (.int .i64 a.2) ∧ w.cell? ⟨b, o + i * 3 + 2, none⟩ = some (.slice p (len l) cap) ∧ Sl w p l
  | _, .nil, _, _, _, h => by simp [len] at h
  | 0, .node x y a l r, b, o, hr, _ => by
    obtain ⟨h1, h2, ⟨p, b', o', cap, h3, h4, h6⟩, _⟩ := hr
    exact ⟨x, y, a, l, r, p, cap, rfl, by simpa using h1, by simpa using h2, by simpa using h3, b', o', h4, h6⟩
  | i + 1, .node _ _ _ _ r', b, o, hr, h => by
    obtain ⟨_, _, _, h5⟩ := hr
    rw [len] at h
    obtain ⟨x, y, a, l, r, p, cap, e, c1, c2, c3, hs⟩ := Row.at i r' b (o + 3) h5 (by omega)
    have e3 : o + (i + 1) * 3 = o + 3 + i * 3 := by omega
    exact ⟨x, y, a, l, r, p, cap, by rw [drop]; exact e, by rw [e3]; exact c1, by rw [e3]; exact c2, by rw [e3]; exact c3, hs⟩
theorem Row.lt {w : World} {b o : Nat} {f : F} (h : Row w b o f) (hl : 0 < len f) : b < w.heap.size := by
  cases f with
  | nil => simp [len] at hl
  | node _ _ a l r => exact World.block_lt_of_cell? w ⟨b, o, none⟩ h.1

/-- What lay in w reads as it did in w1, where only new blocks have come. -/
theorem bcell {W w1 : World} (hb : Below W.heap.size W w1) : (∀ b o, b < W.heap.size → w1.cell? ⟨b, o, none⟩ = W.cell? ⟨b, o, none⟩) ∧ (∀ b o, b < W.heap.size → w1.frozen? ⟨b, o, none⟩ = W.frozen? ⟨b, o, none⟩) :=
  ⟨fun b o h => hb.cell (p := ⟨b, o, none⟩) h, fun b o h => hb.frozen (p := ⟨b, o, none⟩) h⟩

/-- The term number i of a slice, in a later world. -/
theorem Sl.at {W w : World} {q : Option Addr} {f : F} (hs : Sl W q f) (hb : Below W.heap.size W w) {i : Nat} (hi : i < len f) : ∃ b o k n p cap x y l r, q = some ⟨b, o, none⟩ ∧ drop i f = .node x y (k, n) l r ∧ b < W.heap.size ∧
    w.cell? ⟨b, o + i * 3, none⟩ = some (.int .i64 k) ∧ w.cell? ⟨b, o + i * 3 + 1, none⟩ = some (.int .i64 n) ∧ w.cell? ⟨b, o + i * 3 + 2, none⟩ = some (.slice p (len l) cap) ∧ Sl w p l := by
  obtain ⟨b, o, h1, h2⟩ := hs
  obtain ⟨x, y, a, l, r, p, cap, e, c1, c2, c3, hs⟩ := Row.at i f b o (h2) hi
  have hl := h2.lt (by omega)
  exact ⟨b, o, a.1, a.2, p, cap, x, y, l, r, h1 (by omega), e, hl, by rw [(bcell hb).1 _ _ hl]; exact c1, by rw [(bcell hb).1 _ _ hl]; exact c2, by rw [(bcell hb).1 _ _ hl]; exact c3, hs.below hb⟩

/-- Behind a call that was made where three new cells had been laid last. -/
theorem box3 {w w1 : World} {a b c : Value} {t : TypeId} (hb : Below (w.alloc (.cells #[a, b, c] t)).heap.size (w.alloc (.cells #[a, b, c] t)) w1) :
    w1.cell? ⟨w.heap.size, 0, none⟩ = some a ∧ w1.cell? ⟨w.heap.size, 1, none⟩ = some b ∧ w1.cell? ⟨w.heap.size, 2, none⟩ = some c ∧ Below w.heap.size w w1 ∧ w.heap.size < w1.heap.size := by
  have hz := hb.size
  have e : (w.alloc (.cells #[a, b, c] t)).heap.size = w.heap.size + 1 := by simp
  rw [e] at hz
  refine ⟨?_, ?_, ?_, ((Below.refl _ _).alloc (Nat.le_refl _) _).trans (hb.mono (by rw [e]; omega)), by omega⟩ <;>
  (rw [hb.cell (by rw [e]; exact Nat.lt_succ_self _)]; simp [go_sem])

theorem undrew {w w1 : World} (h : Below w.drew.heap.size w.drew w1) : Below w.heap.size w w1 := ⟨h.os, h.tape, h.output, h.size, h.block⟩
end Tmx
