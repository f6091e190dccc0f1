/-
  Bytes as they lie in memory: a part of someone's list, and a list of one's own that is appended to.
-/
import Derived.Test.YtcgpjihfligdbaaPlainB
import Derived.Test.YtcgpjihfligdbaaMem2
import Derived.Deep.AppendLies
import Derived.Deep.AppendSrc
import Derived.Laws.IdiomStrings
import Derived.Laws.BytesArg
namespace Tmx
open Go Go.Deep Go.RowKit

/-- A byte as a cell. -/
def bv (c : UInt8) : Value := .int .u8 (c.toNat : Int)
/-- The bytes l lie in w from the cell o of the block b on. -/
def Bat (w : World) (b o : Nat) (l : List UInt8) : Prop := ∀ i (h : i < l.length), w.cell? ⟨b, o + i, none⟩ = some (bv l[i])
/-- The slice that begins at p holds the bytes l in w. -/
def Bs (w : World) (p : Option Addr) (l : List UInt8) : Prop := ∃ b o, (0 < l.length → p = some ⟨b, o, none⟩) ∧ Bat w b o l

theorem Bs.nil (w : World) (p : Option Addr) : Bs w p [] := ⟨0, 0, fun h => by simp at h, fun i h => by simp at h⟩
theorem Bs.some {w : World} {b o : Nat} {l : List UInt8} (h : Bat w b o l) : Bs w (some ⟨b, o, none⟩) l := ⟨b, o, fun _ => rfl, h⟩
theorem Bat.below {w w' : World} {b o : Nat} {l : List UInt8} (h : Bat w b o l) (hb : Below w.heap.size w w') : Bat w' b o l := fun i hi => below_some hb _ _ _ (h i hi)
theorem Bs.below {w w' : World} {p : Option Addr} {l : List UInt8} (h : Bs w p l) (hb : Below w.heap.size w w') : Bs w' p l :=
  let ⟨b, o, h1, h2⟩ := h
  ⟨b, o, h1, h2.below hb⟩
theorem Bs.drew {w : World} {p : Option Addr} {l : List UInt8} (h : Bs w p l) : Bs w.drew p l := h.below (Below.refl _ _).drew
theorem Bs.cons {w : World} {p : Option Addr} {c : UInt8} {l : List UInt8} (h : Bs w p (c :: l)) : ∃ b o, p = .some ⟨b, o, none⟩ ∧ b < w.heap.size ∧ w.cell? ⟨b, o, none⟩ = .some (.int .u8 (c.toNat : Int)) ∧ Bat w b (o + 1) l := by
  obtain ⟨b, o, h1, h2⟩ := h
  have h0 : w.cell? ⟨b, o, none⟩ = .some (.int .u8 (c.toNat : Int)) := h2 0 (by simp)
  refine ⟨b, o, h1 (by simp), World.block_lt_of_cell? w ⟨b, o, none⟩ h0, h0, fun i hi => ?_⟩
  have := h2 (i + 1) (by simp; omega)
  rw [show o + 1 + i = o + (i + 1) by omega, this]
  rfl
theorem Bat.drop {w : World} {b o : Nat} {l : List UInt8} (h : Bat w b o l) (m : Nat) : Bat w b (o + m) (l.drop m) := fun i hi => by
  have := h (m + i) (by simp at hi; omega)
  rw [show o + m + i = o + (m + i) by omega, this]
  simp
theorem Bat.take {w : World} {b o : Nat} {l : List UInt8} (h : Bat w b o l) (m : Nat) : Bat w b o (l.take m) := fun i hi => by
  have := h i (by simp at hi; omega)
  rw [this]
  simp

/-- The value v is the bytes l, in a row of one's own from the block lo on. -/
def BytesIn (lo : Nat) (w : World) (v : Value) (l : List UInt8) : Prop := w.ownsRow lo 5 1 v l.length (l.map bv)
theorem BytesIn.nil (lo : Nat) (w : World) : BytesIn lo w (.slice none 0 0) [] := World.ownsRow_nil w lo 5 1
theorem BytesIn.form {lo : Nat} {w : World} {v : Value} {l : List UInt8} (h : BytesIn lo w v l) : ∃ p cap, v = .slice p l.length cap ∧ l.length ≤ cap ∧ Bs w p l ∧ (p = none → cap = 0) := by
  obtain ⟨g1, g2⟩ := h
  rcases g2 with ⟨rfl, h0⟩ | ⟨g, cap, cur, rfl, hg, hh, hn, hm, hs, ht⟩
  · obtain rfl : l = [] := List.eq_nil_of_length_eq_zero h0
    exact ⟨none, 0, rfl, Nat.le_refl _, Bs.nil _ _, fun _ => rfl⟩
  · refine ⟨_, cap, rfl, hn, Bs.some fun i hi => ?_, fun e => by simp at e⟩
    rw [Nat.zero_add, cell_of_row w g i cur 5 (0, 0) hh]
    have : (cur.toList.take (l.length * 1))[i]? = (l.map bv)[i]? := by rw [ht]
    rw [List.getElem?_take, if_pos (by omega), List.getElem?_map, List.getElem?_eq_getElem hi] at this
    simpa using this
theorem BytesIn.facts {lo : Nat} {w : World} {p : Option Addr} {n cap : Nat} {l : List UInt8} (h : BytesIn lo w (.slice p n cap) l) : l.length ≤ cap ∧ Bs w p l ∧ (p = none → cap = 0) := by
  obtain ⟨p', cap', e, h1, h2, h3⟩ := h.form
  obtain ⟨rfl, _, rfl⟩ := Value.slice.inj e
  exact ⟨h1, h2, h3⟩
theorem BytesIn.along {lo : Nat} {w w' : World} {v : Value} {l : List UInt8} (h : BytesIn lo w v l) (hb : ∀ b, lo ≤ b → b < w.heap.size → w'.heap[b]? = w.heap[b]?) : BytesIn lo w' v l := by
  obtain ⟨g1, g2⟩ := h
  refine ⟨g1, ?_⟩
  rcases g2 with g2 | ⟨g, cap, cur, e, hg, hh, hr⟩
  · exact .inl g2
  · exact .inr ⟨g, cap, cur, e, hg, by rw [hb g hg (by obtain ⟨hlt, _⟩ := Array.getElem?_eq_some_iff.1 hh; exact hlt)]; exact hh, hr⟩
theorem BytesIn.below {lo : Nat} {w w' : World} {v : Value} {l : List UInt8} (h : BytesIn lo w v l) (hb : Below w.heap.size w w') : BytesIn lo w' v l := h.along fun b _ hl => hb.block b hl
theorem BytesIn.mono {lo lo' : Nat} {w : World} {v : Value} {l : List UInt8} (h : BytesIn lo w v l) (hl : lo' ≤ lo) : BytesIn lo' w v l := by
  obtain ⟨g1, g2⟩ := h
  refine ⟨g1, ?_⟩
  rcases g2 with g2 | ⟨g, cap, cur, e, hg, hr⟩
  · exact .inl g2
  · exact .inr ⟨g, cap, cur, e, by omega, hr⟩
/-- Behind an append to a row of one's own, blocks ahead are as they were. -/
theorem grown_below {w w' : World} {lo n sz : Nat} {e : TypeId} {v : Value} {xs : List Value} (hN : w.ownsRow lo e sz v n xs) (hg : w.grownBy w' v.ownBlock) (hlo : lo ≤ w.heap.size) : Below lo w w' :=
  ⟨hg.os, hg.tape, hg.output, hg.size, fun b hb => hg.block b (by omega) fun h => by have := (hN.lt b h.symm).1; omega⟩
end Tmx
