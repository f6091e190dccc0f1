/-
  The reader of a text as it lies in memory, and worlds in which it alone, and new blocks, have turned.
-/
import Derived.Test.YtcgpjihfligdbaaDoorMem2
namespace Tmx
open Go Go.Deep Go.RowKit

/-- A text as a value. -/
def str (l : List UInt8) : Value := .string ⟨l.toArray⟩

/-- The block r is a reader: what is left of its text, the names of declarations, its error. -/
def Rd (w : World) (r : Nat) (l : List UInt8) (D : Value) (E : Int) : Prop := w.heap[r]? = some (.cells #[.string ⟨l.toArray⟩, D, .int .i64 E] 40 (0, 0))
theorem Rd.lt {w : World} {r : Nat} {l : List UInt8} {D : Value} {E : Int} (h : Rd w r l D E) : r < w.heap.size := by
  obtain ⟨hlt, _⟩ := Array.getElem?_eq_some_iff.1 h
  exact hlt
theorem Rd.facts {w : World} {r : Nat} {l : List UInt8} {D : Value} {E : Int} (h : Rd w r l D E) :
    w.cell? ⟨r, 0, none⟩ = some (.string ⟨l.toArray⟩) ∧ w.cell? ⟨r, 1, none⟩ = some D ∧ w.cell? ⟨r, 2, none⟩ = some (.int .i64 E) ∧ w.frozen? ⟨r, 0, none⟩ = false ∧ w.frozen? ⟨r, 1, none⟩ = false ∧ w.frozen? ⟨r, 2, none⟩ = false := by
  unfold Rd at h
  simp [World.cell?, World.frozen?, h]
theorem Rd.of_block {w w' : World} {r : Nat} {l : List UInt8} {D : Value} {E : Int} (h : Rd w r l D E) (e : w'.heap[r]? = w.heap[r]?) : Rd w' r l D E := by
  unfold Rd
  rw [e]
  exact h
theorem Rd.below {w w' : World} {r : Nat} {l : List UInt8} {D : Value} {E : Int} (h : Rd w r l D E) (hb : Below w.heap.size w w') : Rd w' r l D E := h.of_block (hb.block _ h.lt)
theorem Rd.setS {w : World} {r : Nat} {l : List UInt8} {D : Value} {E : Int} (h : Rd w r l D E) (l' : List UInt8) : Rd (w.setCell ⟨r, 0, none⟩ (.string ⟨l'.toArray⟩)) r l' D E := by
  unfold Rd at *
  simp [World.setCell, Array.getElem?_modify, h]
theorem Rd.setE {w : World} {r : Nat} {l : List UInt8} {D : Value} {E : Int} (h : Rd w r l D E) (E' : Int) : Rd (w.setCell ⟨r, 2, none⟩ (.int .i64 E')) r l D E' := by
  unfold Rd at *
  simp [World.setCell, Array.getElem?_modify, h]

/-- But for the block r, and new blocks, w' is as w was. -/
structure Kept (r : Nat) (w w' : World) : Prop where
  os : w'.os = w.os
  tape : w'.tape = w.tape
  output : w'.output = w.output
  size : w.heap.size ≤ w'.heap.size
  block : ∀ k, k < w.heap.size → k ≠ r → w'.heap[k]? = w.heap[k]?

theorem Kept.refl (r : Nat) (w : World) : Kept r w w := ⟨rfl, rfl, rfl, Nat.le_refl _, fun _ _ _ => rfl⟩
theorem Kept.trans {r : Nat} {a b c : World} (h : Kept r a b) (k : Kept r b c) : Kept r a c :=
  ⟨k.os.trans h.os, k.tape.trans h.tape, k.output.trans h.output, Nat.le_trans h.size k.size, fun i hi hr => (k.block i (Nat.lt_of_lt_of_le hi h.size) hr).trans (h.block i hi hr)⟩
theorem Kept.of_below {r : Nat} {w w' : World} (h : Below w.heap.size w w') : Kept r w w' := ⟨h.os, h.tape, h.output, h.size, fun k hk _ => h.block k hk⟩
theorem Kept.alloc (r : Nat) (w : World) (o : Obj) : Kept r w (w.alloc o) := .of_below ((Below.refl _ _).alloc (Nat.le_refl _) _)
theorem Kept.drew (r : Nat) (w : World) : Kept r w w.drew := .of_below (Below.refl _ _).drew
theorem Kept.set (w : World) (x : Addr) (v : Value) : Kept x.block w (w.setCell x v) :=
  ⟨rfl, rfl, rfl, by simp [World.setCell], fun k _ hk => Below.heap_setCell _ _ _ _ hk⟩
/-- A store into a block that is new. -/
theorem Kept.setNew {r : Nat} {w w' : World} (h : Kept r w w') {x : Addr} (hx : w.heap.size ≤ x.block) (v : Value) : Kept r w (w'.setCell x v) :=
  ⟨h.os, h.tape, h.output, by have := h.size; simpa [World.setCell] using this, fun k hk hr => by rw [Below.heap_setCell _ _ _ _ (by omega)]; exact h.block k hk hr⟩
theorem Kept.below {r B : Nat} {w w' : World} (h : Kept r w w') (hr : B ≤ r) (hB : B ≤ w.heap.size) : Below B w w' :=
  ⟨h.os, h.tape, h.output, h.size, fun k hk => h.block k (by omega) (by omega)⟩
theorem Kept.cell {r : Nat} {w w' : World} (h : Kept r w w') {b o : Nat} {v : Value} (hb : b ≠ r) (hc : w.cell? ⟨b, o, none⟩ = some v) : w'.cell? ⟨b, o, none⟩ = some v := by
  rw [World.cell?_of_block (w := w) (h.block b (World.block_lt_of_cell? w ⟨b, o, none⟩ hc) hb)]
  exact hc
theorem Kept.box {r : Nat} {w w' : World} (h : Kept r w w') {B : Nat} {a b c : Value} (hB : B ≠ r) (hx : Box w B a b c) : Box w' B a b c := hx.of_block (h.block B hx.lt hB)

/-- What is left behind the blanks. -/
def skip : List UInt8 → List UInt8
  | [] => []
  | c :: r => if c = 32 ∨ c = 10 then skip r else c :: r
/-- How many signs of a word stand at the beginning. -/
def wlen : List UInt8 → Nat
  | [] => 0
  | c :: r => if c = 32 ∨ c = 10 ∨ c = 40 ∨ c = 41 then 0 else wlen r + 1
/-- How long the next word is, where no blank stands first. -/
def plen (l : List UInt8) : Nat := if wlen l = 0 ∧ 0 < l.length then 1 else wlen l
/-- The next word; none: empty. -/
def peekW (l : List UInt8) : List UInt8 := (skip l).take (plen (skip l))
/-- What is left behind the next word. -/
def restW (l : List UInt8) : List UInt8 := (skip l).drop (plen (skip l))
def failE (E e : Int) : Int := if E = 0 then e else E
/-- The error behind a word that is taken. -/
def wE (l : List UInt8) (E : Int) : Int := if peekW l = [] then failE E 8 else E

theorem wlen_le : ∀ l, wlen l ≤ l.length
  | [] => Nat.le_refl _
  | c :: r => by rw [wlen]; split <;> simp; exact wlen_le r
theorem plen_le (l : List UInt8) : plen l ≤ l.length := by
  unfold plen
  split
  · omega
  · exact wlen_le l
theorem skip_self (c : UInt8) (r : List UInt8) (h : ¬ (c = 32 ∨ c = 10)) : skip (c :: r) = c :: r := by rw [skip, if_neg h]
theorem wlen_zero (c : UInt8) (r : List UInt8) : wlen (c :: r) = 0 ↔ (c = 32 ∨ c = 10 ∨ c = 40 ∨ c = 41) := by
  rw [wlen]
  split <;> simp_all
theorem wlen_succ (c : UInt8) (r : List UInt8) (h : ¬ (c = 32 ∨ c = 10 ∨ c = 40 ∨ c = 41)) : wlen (c :: r) = wlen r + 1 := by rw [wlen, if_neg h]
theorem byte_ne (c : UInt8) (n : Nat) (h : ¬ c.toNat = n) : ((c.toNat : Int) != (n : Int)) = true := by
  rw [bne_iff_ne]
  omega
theorem skip_len : ∀ l, (skip l).length ≤ l.length
  | [] => Nat.le_refl _
  | c :: r => by rw [skip]; split <;> simp; exact Nat.le_succ_of_le (skip_len r)
end Tmx
