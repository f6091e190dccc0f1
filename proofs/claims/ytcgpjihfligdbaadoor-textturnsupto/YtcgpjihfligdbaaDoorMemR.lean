/-
  The program's reader as it lies in memory.
-/
import Derived.Test.YtcgpjihfligdbaaDoorW16U
import Derived.Test.YtcgpjihfligdbaaDoorU1
import Derived.Test.YtcgpjihfligdbaaDoorPlainTm
namespace Go.Proofs.YtcgpjihfligdbaaDoor
open Go.RowKit Tmx
set_option maxRecDepth 60000

/-- The slice that begins at p holds the texts ws in w, in a block ahead of lo. -/
def Tx (lo : Nat) (w : World) (p : Option Addr) (ws : List (List UInt8)) : Prop :=
  ∃ b o, (0 < ws.length → p = some ⟨b, o, none⟩ ∧ b < lo) ∧ ∀ i, i < ws.length → w.cell? ⟨b, o + i, none⟩ = some (.string ⟨(ws.getD i []).toArray⟩)
theorem Tx.nil (lo : Nat) (w : World) (p : Option Addr) : Tx lo w p [] := ⟨0, 0, fun h => by simp at h, fun i h => by simp at h⟩
theorem Tx.along {lo : Nat} {w w' : World} {p : Option Addr} {ws : List (List UInt8)} (h : Tx lo w p ws) (hb : ∀ b, b < lo → b < w.heap.size → w'.heap[b]? = w.heap[b]?) : Tx lo w' p ws := by
  obtain ⟨b, o, h1, h2⟩ := h
  refine ⟨b, o, h1, fun i hi => ?_⟩
  rw [World.cell?_of_block (w := w) (hb b (h1 (by omega)).2 (World.block_lt_of_cell? w ⟨b, o + i, none⟩ (h2 i hi)))]
  exact h2 i hi
theorem Tx.at {lo : Nat} {w : World} {p : Option Addr} {ws : List (List UInt8)} (h : Tx lo w p ws) {i : Nat} (hi : i < ws.length) : ∃ b o, p = some ⟨b, o, none⟩ ∧ b < lo ∧ w.cell? ⟨b, o + i, none⟩ = some (.string ⟨(ws.getD i []).toArray⟩) := by
  obtain ⟨b, o, h1, h2⟩ := h
  exact ⟨b, o, (h1 (by omega)).1, (h1 (by omega)).2, h2 i hi⟩
theorem Tx.mono {lo lo' : Nat} {w : World} {p : Option Addr} {ws : List (List UInt8)} (h : Tx lo w p ws) (hl : lo ≤ lo') : Tx lo' w p ws := by
  obtain ⟨b, o, h1, h2⟩ := h
  exact ⟨b, o, fun h => ⟨(h1 h).1, by have := (h1 h).2; omega⟩, h2⟩
theorem Strs.of_tx {lo r : Nat} {w : World} {p : Option Addr} {ws : List (List UInt8)} (h : Tx lo w p ws) (hr : lo ≤ r) : Strs r w p ws := by
  obtain ⟨b, o, h1, h2⟩ := h
  exact ⟨b, o, fun h => ⟨(h1 h).1, by have := (h1 h).2; omega⟩, h2⟩

/-- The block r is the program's reader. -/
def RdP (w : World) (r : Nat) (W B D : Value) : Prop := w.heap[r]? = some (.cells #[W, B, D] 78 (0, 0))
theorem RdP.lt {w : World} {r : Nat} {W B D : Value} (h : RdP w r W B D) : r < w.heap.size := by
  obtain ⟨hlt, _⟩ := Array.getElem?_eq_some_iff.1 h
  exact hlt
theorem RdP.facts {w : World} {r : Nat} {W B D : Value} (h : RdP w r W B D) :
    w.cell? ⟨r, 0, none⟩ = some W ∧ w.cell? ⟨r, 1, none⟩ = some B ∧ w.cell? ⟨r, 2, none⟩ = some D ∧ w.frozen? ⟨r, 0, none⟩ = false ∧ w.frozen? ⟨r, 1, none⟩ = false ∧ w.frozen? ⟨r, 2, none⟩ = false := by
  unfold RdP at h
  simp [World.cell?, World.frozen?, h]
theorem RdP.of_block {w w' : World} {r : Nat} {W B D : Value} (h : RdP w r W B D) (e : w'.heap[r]? = w.heap[r]?) : RdP w' r W B D := by
  unfold RdP
  rw [e]
  exact h
theorem RdP.setW {w : World} {r : Nat} {W B D : Value} (h : RdP w r W B D) (W' : Value) : RdP (w.setCell ⟨r, 0, none⟩ W') r W' B D := by
  unfold RdP at *
  simp [World.setCell, Array.getElem?_modify, h]
theorem RdP.setB {w : World} {r : Nat} {W B D : Value} (h : RdP w r W B D) (B' : Value) : RdP (w.setCell ⟨r, 1, none⟩ B') r W B' D := by
  unfold RdP at *
  simp [World.setCell, Array.getElem?_modify, h]

/-- The reader r: the words ws are left, the names ns are bound (in the row v), ds declared; words and declarations lie ahead of lo. -/
structure RS (lo r : Nat) (w : World) (ws ns ds : List (List UInt8)) (v : Value) : Prop where
  blk : ∃ pw cw pd cd, RdP w r (.slice pw ws.length cw) v (.slice pd ds.length cd) ∧ Tx lo w pw ws ∧ ws.length ≤ cw ∧ Tx lo w pd ds
  names : NamesIn lo w v ns
  own : v.ownBlock ≠ some r
  lor : lo ≤ r
  vs : Vs lo w
theorem RS.lt {lo r : Nat} {w : World} {ws ns ds : List (List UInt8)} {v : Value} (h : RS lo r w ws ns ds v) : r < w.heap.size := by
  obtain ⟨_, _, _, _, h1, _⟩ := h.blk
  exact h1.lt
theorem RS.ownlt {lo r : Nat} {w : World} {ws ns ds : List (List UInt8)} {v : Value} (h : RS lo r w ws ns ds v) (b : Nat) (hb : v.ownBlock = some b) : lo ≤ b ∧ b < w.heap.size := h.names.lt b hb

/-- But for the block r, the row of v, and new blocks, w' is as w was. -/
structure KB (r : Nat) (v : Value) (w w' : World) : Prop where
  os : w'.os = w.os
  tape : w'.tape = w.tape
  output : w'.output = w.output
  size : w.heap.size ≤ w'.heap.size
  block : ∀ k, k < w.heap.size → k ≠ r → v.ownBlock ≠ some k → w'.heap[k]? = w.heap[k]?
/-- The row of v' is that of v, or a new one. -/
def OwnNew (w : World) (v v' : Value) : Prop := ∀ b, v'.ownBlock = some b → v.ownBlock = some b ∨ w.heap.size ≤ b
theorem OwnNew.refl (w : World) (v : Value) : OwnNew w v v := fun _ h => .inl h
theorem OwnNew.trans {w w' : World} {a b c : Value} (h : OwnNew w a b) (k : OwnNew w' b c) (hs : w.heap.size ≤ w'.heap.size) : OwnNew w a c := fun x hx => by
  rcases k x hx with h1 | h1
  · exact h x h1
  · exact .inr (by omega)
theorem KB.refl (r : Nat) (v : Value) (w : World) : KB r v w w := ⟨rfl, rfl, rfl, Nat.le_refl _, fun _ _ _ _ => rfl⟩
theorem KB.trans {r : Nat} {v v' : Value} {a b c : World} (h : KB r v a b) (k : KB r v' b c) (ho : OwnNew a v v') : KB r v a c :=
  ⟨k.os.trans h.os, k.tape.trans h.tape, k.output.trans h.output, Nat.le_trans h.size k.size, fun i hi hr hv => (k.block i (Nat.lt_of_lt_of_le hi h.size) hr (fun e => by
    rcases ho i e with h1 | h1
    · exact hv h1
    · omega)).trans (h.block i hi hr hv)⟩
theorem KB.of_kept {r : Nat} {v : Value} {w w' : World} (h : Kept r w w') : KB r v w w' := ⟨h.os, h.tape, h.output, h.size, fun k hk hr _ => h.block k hk hr⟩
theorem KB.of_below {r : Nat} {v : Value} {w w' : World} (h : Below w.heap.size w w') : KB r v w w' := .of_kept (.of_below h)
theorem KB.below {r lo : Nat} {v : Value} {w w' : World} (h : KB r v w w') (hr : lo ≤ r) (hl : lo ≤ w.heap.size) (hv : ∀ b, v.ownBlock = some b → lo ≤ b) : Below lo w w' :=
  ⟨h.os, h.tape, h.output, h.size, fun k hk => h.block k (by omega) (by omega) fun e => by have := hv k e; omega⟩

/-- In a world in which the reader, its names, and what lies ahead of lo, are as they were. -/
theorem RS.along {lo r : Nat} {w w' : World} {ws ns ds : List (List UInt8)} {v : Value} (h : RS lo r w ws ns ds v) (hr : w'.heap[r]? = w.heap[r]?) (ho : ∀ b, v.ownBlock = some b → w'.heap[b]? = w.heap[b]?) (hl : ∀ b, b < lo → b < w.heap.size → w'.heap[b]? = w.heap[b]?) : RS lo r w' ws ns ds v := by
  obtain ⟨pw, cw, pd, cd, h1, h2, h3, h4⟩ := h.blk
  refine ⟨⟨pw, cw, pd, cd, h1.of_block hr, h2.along hl, h3, h4.along hl⟩, ?_, h.own, h.lor, h.vs.along fun g hg hs => hl g (by have := h.vs.1; omega) hs⟩
  obtain ⟨g1, g2⟩ := h.names
  refine ⟨g1, ?_⟩
  rcases g2 with g2 | ⟨g, cap, cur, e, hg, hh, hrr⟩
  · exact .inl g2
  · exact .inr ⟨g, cap, cur, e, hg, by rw [ho g (by rw [e]; rfl)]; exact hh, hrr⟩
theorem RS.below {lo r : Nat} {w w' : World} {ws ns ds : List (List UInt8)} {v : Value} (h : RS lo r w ws ns ds v) (hb : Below w.heap.size w w') : RS lo r w' ws ns ds v :=
  h.along (hb.block _ h.lt) (fun b e => hb.block _ (h.ownlt b e).2) (fun _ _ hs => hb.block _ hs)

/-- A row that is cut short. -/
theorem NamesIn.take {lo : Nat} {w : World} {p : Option Addr} {n cap : Nat} {ns : List (List UInt8)} (h : NamesIn lo w (.slice p n cap) ns) {m : Nat} (hm : m ≤ ns.length) : NamesIn lo w (.slice p m cap) (ns.take m) := by
  obtain ⟨g1, g2⟩ := h
  have hl : (ns.take m).length = m := by rw [List.length_take]; omega
  refine ⟨by simp, ?_⟩
  rw [hl]
  rcases g2 with ⟨e, h0⟩ | ⟨g, cap', cur, e, hg, hh, hn, hmx, hs, ht⟩
  · obtain ⟨rfl, rfl, rfl⟩ := Value.slice.inj e
    exact .inl ⟨by rw [show m = 0 by omega], by omega⟩
  · obtain ⟨rfl, rfl, rfl⟩ := Value.slice.inj e
    refine .inr ⟨g, cap, cur, rfl, hg, hh, by omega, hmx, hs, ?_⟩
    rw [List.map_take, ← ht, List.take_take]
    congr 1
    omega
end Go.Proofs.YtcgpjihfligdbaaDoor
