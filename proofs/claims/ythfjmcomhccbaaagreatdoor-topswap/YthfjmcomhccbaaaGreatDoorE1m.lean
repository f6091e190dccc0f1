/-
  How thunks and values lie in memory. Which block is whose is told by a ghost that only grows: a block is a thunk's (worked out, or not: it alone may change), or a value's, or holds what those are made of (never changed). All other blocks are the caller's own.
-/
/-
  Contracts: known, Free, Height, Is, meant.
-/
import Derived.Test.YthfjmcomhccbaaaGreatDoorE0
import Derived.Test.YthfjmcomhccbaaaGreatDoorMem2m
import Derived.WalkKit
import Derived.Deep.LoopGhost
import Derived.Deep.RegionHeld3
import Derived.Deep.RegionLaw
import Derived.Laws.EntriesVeiled
namespace Go.Proofs.YthfjmcomhccbaaaGreatDoor
open Go.RowKit Tmx Evx
set_option maxRecDepth 60000

/-- Which thunk, and which value, a block is; which blocks stay as they are. -/
structure Gh where
  l : Nat → Option Th
  v : Nat → Option V
  o : Nat → Prop
/-- It has grown; what is new in it lies from n on. -/
structure Gh.le (n : Nat) (g g' : Gh) : Prop where
  l : ∀ b t, g.l b = some t → g'.l b = some t
  v : ∀ b v, g.v b = some v → g'.v b = some v
  o : ∀ b, g.o b → g'.o b
  ln : ∀ b, b < n → g.l b = none → g'.l b = none
  on : ∀ b, b < n → g'.o b → g.o b
theorem Gh.le.refl (n : Nat) (g : Gh) : Gh.le n g g := ⟨fun _ _ h => h, fun _ _ h => h, fun _ h => h, fun _ _ h => h, fun _ _ h => h⟩
theorem Gh.le.trans {n m : Nat} {a b c : Gh} (h : Gh.le n a b) (k : Gh.le m b c) (hn : n ≤ m) : Gh.le n a c :=
  ⟨fun _ _ e => k.l _ _ (h.l _ _ e), fun _ _ e => k.v _ _ (h.v _ _ e), fun _ e => k.o _ (h.o _ e), fun x hx e => k.ln x (by omega) (h.ln x hx e), fun x hx e => h.on x hx (k.on x (by omega) e)⟩

def ptr (b : Nat) : Value := .pointer (some ⟨b, 0, none⟩)
def PL (g : Gh) (x : Value) (t : Th) : Prop := ∃ b, x = ptr b ∧ g.l b = some t
def Blk (w : World) (b : Nat) (cs : Array Value) (T : TypeId) : Prop := w.heap[b]? = some (.cells cs T (0, 0))
theorem Blk.lt {w : World} {b : Nat} {cs : Array Value} {T : TypeId} (h : Blk w b cs T) : b < w.heap.size := by
  obtain ⟨hlt, _⟩ := Array.getElem?_eq_some_iff.1 h
  exact hlt
theorem Blk.cell {w : World} {b : Nat} {cs : Array Value} {T : TypeId} (h : Blk w b cs T) (i : Nat) : w.cell? ⟨b, i, none⟩ = cs[i]? := by
  unfold Blk at h
  simp [World.cell?, h]
theorem Blk.free {w : World} {b : Nat} {cs : Array Value} {T : TypeId} (h : Blk w b cs T) (i : Nat) : w.frozen? ⟨b, i, none⟩ = false := by
  unfold Blk at h
  simp [World.frozen?, h]
theorem Blk.new (w : World) (cs : Array Value) (T : TypeId) : Blk (w.alloc (.cells cs T)) w.heap.size cs T := heap_alloc_new _ _
theorem Blk.one {w : World} {b : Nat} {x : Value} {T : TypeId} (h : Blk w b #[x] T) : w.cell? ⟨b, 0, none⟩ = some x ∧ w.frozen? ⟨b, 0, none⟩ = false := ⟨by rw [h.cell]; rfl, h.free 0⟩
theorem Blk.two {w : World} {b : Nat} {x y : Value} {T : TypeId} (h : Blk w b #[x, y] T) : w.cell? ⟨b, 0, none⟩ = some x ∧ w.cell? ⟨b, 1, none⟩ = some y ∧ w.frozen? ⟨b, 0, none⟩ = false ∧ w.frozen? ⟨b, 1, none⟩ = false := ⟨by rw [h.cell]; rfl, by rw [h.cell]; rfl, h.free 0, h.free 1⟩
theorem Blk.three {w : World} {b : Nat} {x y z : Value} {T : TypeId} (h : Blk w b #[x, y, z] T) : w.cell? ⟨b, 0, none⟩ = some x ∧ w.cell? ⟨b, 1, none⟩ = some y ∧ w.cell? ⟨b, 2, none⟩ = some z ∧ w.frozen? ⟨b, 0, none⟩ = false ∧ w.frozen? ⟨b, 1, none⟩ = false ∧ w.frozen? ⟨b, 2, none⟩ = false := ⟨by rw [h.cell]; rfl, by rw [h.cell]; rfl, by rw [h.cell]; rfl, h.free 0, h.free 1, h.free 2⟩
theorem Blk.of_eq {w w' : World} {b : Nat} {cs : Array Value} {T : TypeId} (h : Blk w b cs T) (e : w'.heap[b]? = w.heap[b]?) : Blk w' b cs T := by
  unfold Blk
  rw [e]
  exact h
theorem Blk.below {w w' : World} {b : Nat} {cs : Array Value} {T : TypeId} (h : Blk w b cs T) (hb : Below w.heap.size w w') : Blk w' b cs T := h.of_eq (hb.block _ h.lt)
theorem Blk.alloc {w : World} {b : Nat} {cs : Array Value} {T : TypeId} (h : Blk w b cs T) (o : Obj) : Blk (w.alloc o) b cs T := h.of_eq (Below.heap_alloc _ _ _ h.lt)
theorem Blk.setOther {w : World} {b : Nat} {cs : Array Value} {T : TypeId} (h : Blk w b cs T) {x : Addr} (hx : b ≠ x.block) (v : Value) : Blk (w.setCell x v) b cs T := h.of_eq (Below.heap_setCell _ _ _ _ hx)
theorem Blk.set0 {w : World} {b : Nat} {x y : Value} {T : TypeId} (h : Blk w b #[x, y] T) (x' : Value) : Blk (w.setCell ⟨b, 0, none⟩ x') b #[x', y] T := by
  unfold Blk at *
  simp [World.setCell, Array.getElem?_modify, h]
theorem Blk.set2 {w : World} {b : Nat} {x y : Value} {T : TypeId} (h : Blk w b #[x, y] T) (x' y' : Value) : Blk ((w.setCell ⟨b, 0, none⟩ x').setCell ⟨b, 1, none⟩ y') b #[x', y'] T := by
  unfold Blk at *
  simp [World.setCell, Array.getElem?_modify, h]
theorem Blk.set1 {w : World} {b : Nat} {x : Value} {T : TypeId} (h : Blk w b #[x] T) (x' : Value) : Blk (w.setCell ⟨b, 0, none⟩ x') b #[x'] T := by
  unfold Blk at *
  simp [World.setCell, Array.getElem?_modify, h]

/-- But for thunks, and new blocks, w' is as w was. -/
structure Keep (g : Gh) (w w' : World) : Prop where
  os : w'.os = w.os
  tape : w'.tape = w.tape
  output : w'.output = w.output
  size : w.heap.size ≤ w'.heap.size
  block : ∀ k, k < w.heap.size → g.l k = none → w'.heap[k]? = w.heap[k]?
theorem Keep.of_below {g : Gh} {w w' : World} (h : Below w.heap.size w w') : Keep g w w' := ⟨h.os, h.tape, h.output, h.size, fun k hk _ => h.block k hk⟩
theorem Keep.blk {g : Gh} {w w' : World} (h : Keep g w w') {b : Nat} {cs : Array Value} {T : TypeId} (hb : Blk w b cs T) (hn : g.l b = none) : Blk w' b cs T := hb.of_eq (h.block b hb.lt hn)

/-- What may be relied on: the blocks of o hold what they held. -/
def Fast (g : Gh) (w w' : World) : Prop := ∀ b, g.o b → w'.heap[b]? = w.heap[b]?

/-- The terms f lie in w from the cell o of the block b on, all in blocks that stay. -/
def RowO (O : Nat → Prop) (w : World) (b o : Nat) : F → Prop
  | .nil => True
  | .node _ _ a l r =>
    O b ∧ w.cell? ⟨b, o, none⟩ = some (.int .i64 a.1) ∧ w.cell? ⟨b, o + 1, none⟩ = some (.int .i64 a.2) ∧
    (∃ p b' o' , ∃ (cap : {c : Nat // len l ≤ c}), w.cell? ⟨b, o + 2, none⟩ = some (.slice p (len l) cap) ∧ (0 < len l → p = some ⟨b', o', none⟩) ∧ RowO O w b' o' l) ∧
    RowO O w b (o + 3) r
def SlO (O : Nat → Prop) (w : World) (p : Option Addr) (f : F) : Prop := ∃ b o, (0 < len f → p = some ⟨b, o, none⟩) ∧ RowO O w b o f
theorem RowO.along {O O' : Nat → Prop} {w w' : World} (hO : ∀ b, O b → O' b) (h : ∀ b, O b → w'.heap[b]? = w.heap[b]?) : ∀ (f : F) (b o : Nat), RowO O w b o f → RowO O' w' b o f
  | .nil, _, _, _ => trivial
  | .node _ _ a l r, b, o, hr => by
    obtain ⟨h0, h1, h2, ⟨p, b', o', cap, h3, h4, h6⟩, h5⟩ := hr
    have hc : ∀ x, w'.cell? ⟨b, x, none⟩ = w.cell? ⟨b, x, none⟩ := fun x => World.cell?_of_block (w := w) (h b h0)
    exact ⟨hO b h0, by rw [hc]; exact h1, by rw [hc]; exact h2, ⟨p, b', o', cap, by rw [hc]; exact h3, h4, RowO.along hO h l b' o' h6⟩, RowO.along hO h r b (o + 3) h5⟩
theorem SlO.along {O O' : Nat → Prop} {w w' : World} (hO : ∀ b, O b → O' b) (h : ∀ b, O b → w'.heap[b]? = w.heap[b]?) {p : Option Addr} {f : F} (hs : SlO O w p f) : SlO O' w' p f := by
  obtain ⟨b, o, h1, h2⟩ := hs
  exact ⟨b, o, h1, RowO.along hO h f b o h2⟩
theorem RowO.row {O : Nat → Prop} {w : World} : ∀ (f : F) (b o : Nat), RowO O w b o f → Row w b o f
  | .nil, _, _, _ => trivial
  | .node _ _ a l r, b, o, hr => by
    obtain ⟨_, h1, h2, ⟨p, b', o', cap, h3, h4, h6⟩, h5⟩ := hr
    exact ⟨h1, h2, ⟨p, b', o', cap, h3, h4, RowO.row l b' o' h6⟩, RowO.row r b (o + 3) h5⟩
theorem SlO.sl {O : Nat → Prop} {w : World} {p : Option Addr} {f : F} (h : SlO O w p f) : Sl w p f :=
  let ⟨b, o, h1, h2⟩ := h
  ⟨b, o, h1, RowO.row f b o h2⟩
/-- The term number i of a row. -/
theorem RowO.at {O : Nat → Prop} {w : World} : ∀ (i : Nat) (f : F) (b o : Nat), RowO O w b o f → i < len f → ∃ x y a l r p, ∃ (cap : {c : Nat // len l ≤ c}), drop i f = .node x y a l r ∧ O b ∧
    w.cell? ⟨b, o + i * 3, none⟩ = some (.int .i64 a.1) ∧ w.cell? ⟨b, o + i * 3 + 1, none⟩ = some (.int .i64 a.2) ∧ w.cell? ⟨b, o + i * 3 + 2, none⟩ = some (.slice p (len l) cap) ∧ SlO O w p l
  | _, .nil, _, _, _, h => by simp [len] at h
  | 0, .node x y a l r, b, o, hr, _ => by
    obtain ⟨h0, h1, h2, ⟨p, b', o', cap, h3, h4, h6⟩, _⟩ := hr
    exact ⟨x, y, a, l, r, p, cap, rfl, h0, by simpa using h1, by simpa using h2, by simpa using h3, b', o', h4, h6⟩
  | i + 1, .node _ _ _ _ r', b, o, hr, h => by
    obtain ⟨_, _, _, _, h5⟩ := hr
    rw [len] at h
    obtain ⟨x, y, a, l, r, p, cap, e, h0, c1, c2, c3, hs⟩ := RowO.at i r' b (o + 3) h5 (by omega)
    have e3 : o + (i + 1) * 3 = o + 3 + i * 3 := by omega
    exact ⟨x, y, a, l, r, p, cap, by rw [drop]; exact e, h0, by rw [e3]; exact c1, by rw [e3]; exact c2, by rw [e3]; exact c3, hs⟩

/-- A term lies there. -/
def TmAt (O : Nat → Prop) (w : World) (b o : Nat) (k n : Int) (f : F) : Prop :=
  O b ∧ ∃ q, ∃ (cap : {c : Nat // len f ≤ c}), w.cell? ⟨b, o, none⟩ = some (.int .i64 k) ∧ w.cell? ⟨b, o + 1, none⟩ = some (.int .i64 n) ∧ w.cell? ⟨b, o + 2, none⟩ = some (.slice q (len f) cap) ∧ SlO O w q f
theorem TmAt.along {O O' : Nat → Prop} {w w' : World} (hO : ∀ b, O b → O' b) (h : ∀ b, O b → w'.heap[b]? = w.heap[b]?) {b o : Nat} {k n : Int} {f : F} (ht : TmAt O w b o k n f) : TmAt O' w' b o k n f := by
  obtain ⟨h0, q, cap, h1, h2, h3, h4⟩ := ht
  have hc : ∀ x, w'.cell? ⟨b, x, none⟩ = w.cell? ⟨b, x, none⟩ := fun x => World.cell?_of_block (w := w) (h b h0)
  exact ⟨hO b h0, q, cap, by rw [hc]; exact h1, by rw [hc]; exact h2, by rw [hc]; exact h3, h4.along hO h⟩
/-- The term number i of a slice, as a term that lies there. -/
theorem SlO.at {O : Nat → Prop} {w : World} {q : Option Addr} {f : F} (hs : SlO O w q f) {i : Nat} (hi : i < len f) : ∃ b o x y k n l r, q = some ⟨b, o, none⟩ ∧ drop i f = .node x y (k, n) l r ∧ TmAt O w b (o + i * 3) k n l := by
  obtain ⟨b, o, h1, h2⟩ := hs
  obtain ⟨x, y, ⟨k, n⟩, l, r, p, cap, e, h0, c1, c2, c3, hs⟩ := RowO.at i f b o h2 hi
  exact ⟨b, o, x, y, k, n, l, r, h1 (by omega), e, h0, p, cap, c1, c2, c3, hs⟩

/-- A block that stays. -/
def BlkO (g : Gh) (w : World) (b : Nat) (cs : Array Value) (T : TypeId) : Prop := g.o b ∧ Blk w b cs T

/-- What is bound within: a chain. -/
def EnvIs (g : Gh) (w : World) : Value → List Th → Prop
  | p, [] => p = .pointer none
  | p, t :: env => ∃ b x q, p = ptr b ∧ BlkO g w b #[x, q] 95 ∧ PL g x t ∧ EnvIs g w q env
/-- A row of pointers to thunks. -/
def RowL (g : Gh) (w : World) (p : Option Addr) (l : List Th) : Prop :=
  0 < l.length → ∃ b cs, p = some ⟨b, 0, none⟩ ∧ Blk w b cs 43 ∧ ∀ (i : Nat) (t : Th), l[i]? = some t → ∃ x, cs[i]? = some x ∧ PL g x t
/-- The declarations' thunks. -/
def defsOf (m : Mk) : List Th := m.D.map fun d => .tm ⟨m.b0, m.b0, m.D⟩ d.1 d.2.1 d.2.2 []
def MkIs (g : Gh) (w : World) (b : Nat) (m : Mk) : Prop := ∃ p cap, BlkO g w b #[.int .i64 m.bound, .slice p m.D.length cap] 67 ∧ RowL g w p (defsOf m) ∧ (0 < m.D.length → ∃ d, p = some ⟨d, 0, none⟩ ∧ g.o d)

/-- What captures a maker, a term, and what is bound within, does so. -/
def CapIs (g : Gh) (w : World) (bm bt bi : Nat) (m : Mk) (k n : Int) (f : F) (env : List Th) : Prop :=
  ∃ pm tb to p, BlkO g w bm #[ptr pm] 44 ∧ BlkO g w bt #[.pointer (some ⟨tb, to, none⟩)] 47 ∧ BlkO g w bi #[p] 71 ∧ MkIs g w pm m ∧ TmAt g.o w tb to k n f ∧ EnvIs g w p env

/-- What works a thunk out. -/
def DoIs (g : Gh) (w : World) (x : Value) : Th → Prop
  | ⟨0, m, k, n, f, env⟩ => ∃ c bm bt bi, (c = 32 ∨ c = 66) ∧ x = .func (.func c) #[] #[ptr bm, ptr bt, ptr bi] ∧ CapIs g w bm bt bi m k n f env
  | ⟨2, _, _, _, _, [v]⟩ => ∃ b q, x = .func (.func 71) #[] #[ptr b] ∧ BlkO g w b #[ptr q] 62 ∧ g.v q = some v
  | ⟨3, _, _, _, _, [v]⟩ => ∃ b q, x = .func (.func 111) #[] #[ptr b] ∧ BlkO g w b #[ptr q] 62 ∧ g.v q = some v
  | ⟨4, _, _, _, _, [t]⟩ => ∃ b, x = .func (.func 29) #[ptr b] #[] ∧ g.l b = some t
  | _ => False

/-- An argument's two cells. -/
def ArIs (g : Gh) (w : World) (x u : Value) : Ar → Prop
  | ⟨6, _, _, _, _, [t]⟩ => PL g x t ∧ u = .nilFunc
  | ⟨7, m, k, n, f, env⟩ => x = .pointer none ∧ ∃ bi bm bt, u = .func (.func 65) #[] #[ptr bi, ptr bm, ptr bt] ∧ CapIs g w bm bt bi m k n f env
  | ⟨8, _, bnd, _, _, [t]⟩ => x = .pointer none ∧ ∃ bm bl bt pm lb p, u = .func (.func 177) #[] #[ptr bm, ptr bl, ptr bt] ∧ BlkO g w bm #[ptr pm] 44 ∧ BlkO g w bl #[ptr lb] 43 ∧ g.l lb = some t ∧ BlkO g w pm #[.int .i64 bnd, p] 67
  | _ => False
def ArgsAt (g : Gh) (w : World) (p : Option Addr) (l : List Ar) : Prop :=
  0 < l.length → ∃ b cs, p = some ⟨b, 0, none⟩ ∧ BlkO g w b cs 91 ∧ ∀ (i : Nat) (a : Ar), l[i]? = some a → ∃ x u, cs[2 * i]? = some x ∧ cs[2 * i + 1]? = some u ∧ ArIs g w x u a

def ValOK (g : Gh) (w : World) (b : Nat) (v : V) : Prop := ∃ p cap, BlkO g w b #[.int .i64 v.kind, .int .i64 v.num, .slice p v.args.length cap] 88 ∧ ArgsAt g w p v.args
def LaterOK (g : Gh) (w : World) (b : Nat) (t : Th) : Prop :=
  (∃ q v, Blk w b #[.nilFunc, ptr q] 85 ∧ g.v q = some v ∧ Evx.Yields t v) ∨ (∃ x, Blk w b #[x, .pointer none] 85 ∧ (∃ f y z, x = .func f y z) ∧ DoIs g w x t)

structure Inv (g : Gh) (w : World) : Prop where
  l : ∀ b t, g.l b = some t → LaterOK g w b t
  v : ∀ b v, g.v b = some v → ValOK g w b v
  o : ∀ b, g.o b → g.l b = none ∧ b < w.heap.size

/-- The ghost has grown, and what stays has stayed. -/
structure Mor (g : Gh) (w : World) (g' : Gh) (w' : World) : Prop where
  l : ∀ b t, g.l b = some t → g'.l b = some t
  v : ∀ b v, g.v b = some v → g'.v b = some v
  o : ∀ b, g.o b → g'.o b
  same : ∀ b, g.o b → w'.heap[b]? = w.heap[b]?

theorem PL.along {g g' : Gh} {w w' : World} (h : Mor g w g' w') {x : Value} {t : Th} (hp : PL g x t) : PL g' x t := by
  obtain ⟨b, e, hb⟩ := hp
  exact ⟨b, e, h.l _ _ hb⟩
theorem BlkO.along {g g' : Gh} {w w' : World} (h : Mor g w g' w') {b : Nat} {cs : Array Value} {T : TypeId} (hb : BlkO g w b cs T) : BlkO g' w' b cs T := ⟨h.o _ hb.1, hb.2.of_eq (h.same _ hb.1)⟩
theorem TmAt.mor {g g' : Gh} {w w' : World} (h : Mor g w g' w') {b o : Nat} {k n : Int} {f : F} (ht : TmAt g.o w b o k n f) : TmAt g'.o w' b o k n f := ht.along h.o h.same
theorem EnvIs.along {g g' : Gh} {w w' : World} (h : Mor g w g' w') : ∀ {env : List Th} {p : Value}, EnvIs g w p env → EnvIs g' w' p env
  | [], _, e => e
  | _ :: _, _, ⟨b, x, q, e, hb, hp, he⟩ => ⟨b, x, q, e, hb.along h, hp.along h, EnvIs.along h he⟩
theorem MkIs.along {g g' : Gh} {w w' : World} (h : Mor g w g' w') {b : Nat} {m : Mk} (hm : MkIs g w b m) : MkIs g' w' b m := by
  obtain ⟨p, cap, hb, hr, ho⟩ := hm
  refine ⟨p, cap, hb.along h, fun h0 => ?_, fun h0 => ?_⟩
  · obtain ⟨b', cs, e, hb', hi⟩ := hr h0
    obtain ⟨d, e', hd⟩ := ho (by simpa [defsOf] using h0)
    rw [e] at e'
    simp only [Option.some.injEq, Addr.mk.injEq] at e'
    obtain ⟨rfl, _⟩ := e'
    exact ⟨b', cs, e, hb'.of_eq (h.same _ hd), fun i t ht => by
      obtain ⟨x, hx, hp⟩ := hi i t ht
      exact ⟨x, hx, hp.along h⟩⟩
  · obtain ⟨d, e', hd⟩ := ho h0
    exact ⟨d, e', h.o _ hd⟩
theorem CapIs.along {g g' : Gh} {w w' : World} (h : Mor g w g' w') {bm bt bi : Nat} {m : Mk} {k n : Int} {f : F} {env : List Th} (hc : CapIs g w bm bt bi m k n f env) : CapIs g' w' bm bt bi m k n f env := by
  obtain ⟨pm, tb, to, p, h1, h2, h3, h4, h5, h6⟩ := hc
  exact ⟨pm, tb, to, p, h1.along h, h2.along h, h3.along h, h4.along h, h5.mor h, h6.along h⟩
theorem DoIs.along {g g' : Gh} {w w' : World} (h : Mor g w g' w') {x : Value} {t : Th} (hk : DoIs g w x t) : DoIs g' w' x t := by
  unfold DoIs at hk ⊢
  split at hk
  · obtain ⟨c, bm, bt, bi, hc, e, k⟩ := hk
    exact ⟨c, bm, bt, bi, hc, e, k.along h⟩
  · obtain ⟨b, q, e, hb, hv⟩ := hk
    exact ⟨b, q, e, hb.along h, h.v _ _ hv⟩
  · obtain ⟨b, q, e, hb, hv⟩ := hk
    exact ⟨b, q, e, hb.along h, h.v _ _ hv⟩
  · obtain ⟨b, e, hl⟩ := hk
    exact ⟨b, e, h.l _ _ hl⟩
  · exact hk.elim
theorem ArIs.along {g g' : Gh} {w w' : World} (h : Mor g w g' w') {x u : Value} {a : Ar} (hk : ArIs g w x u a) : ArIs g' w' x u a := by
  unfold ArIs at hk ⊢
  split at hk
  · obtain ⟨k, e⟩ := hk
    exact ⟨k.along h, e⟩
  · obtain ⟨e, bi, bm, bt, e', k⟩ := hk
    exact ⟨e, bi, bm, bt, e', k.along h⟩
  · obtain ⟨e, bm, bl, bt, pm, lb, p, e', h1, h2, h3, h4⟩ := hk
    exact ⟨e, bm, bl, bt, pm, lb, p, e', h1.along h, h2.along h, h.l _ _ h3, h4.along h⟩
  · exact hk.elim
theorem ArgsAt.along {g g' : Gh} {w w' : World} (h : Mor g w g' w') {p : Option Addr} {l : List Ar} (k : ArgsAt g w p l) : ArgsAt g' w' p l := fun h0 => by
  obtain ⟨b, cs, e, hb, hi⟩ := k h0
  refine ⟨b, cs, e, hb.along h, fun i t ht => ?_⟩
  obtain ⟨x, u, hx, hu, hp⟩ := hi i t ht
  exact ⟨x, u, hx, hu, hp.along h⟩
theorem ValOK.along {g g' : Gh} {w w' : World} (h : Mor g w g' w') {b : Nat} {v : V} (k : ValOK g w b v) : ValOK g' w' b v := by
  obtain ⟨p, cap, hb, hr⟩ := k
  exact ⟨p, cap, hb.along h, hr.along h⟩
theorem LaterOK.along {g g' : Gh} {w w' : World} (h : Mor g w g' w') {b : Nat} {t : Th} (k : LaterOK g w b t) (e : w'.heap[b]? = w.heap[b]?) : LaterOK g' w' b t := by
  rcases k with ⟨q, v, hb, hv, hy⟩ | ⟨x, hb, hf, hd⟩
  · exact .inl ⟨q, v, hb.of_eq e, h.v _ _ hv, hy⟩
  · exact .inr ⟨x, hb.of_eq e, hf, hd.along h⟩
theorem LaterOK.lt {g : Gh} {w : World} {b : Nat} {t : Th} (h : LaterOK g w b t) : b < w.heap.size := by
  rcases h with ⟨q, v, hb, _⟩ | ⟨x, hb, _⟩ <;> exact hb.lt
theorem ValOK.lt {g : Gh} {w : World} {b : Nat} {v : V} (h : ValOK g w b v) : b < w.heap.size := by
  obtain ⟨p, cap, hb, _⟩ := h
  exact hb.2.lt
theorem Inv.l_lt {g : Gh} {w : World} (h : Inv g w) {b : Nat} {t : Th} (e : g.l b = some t) : b < w.heap.size := (h.l b t e).lt
theorem Inv.v_lt {g : Gh} {w : World} (h : Inv g w) {b : Nat} {v : V} (e : g.v b = some v) : b < w.heap.size := (h.v b v e).lt
theorem Inv.l_new {g : Gh} {w : World} (h : Inv g w) {b : Nat} (hb : w.heap.size ≤ b) : g.l b = none := by
  cases e : g.l b with
  | none => rfl
  | some t => exact absurd (h.l_lt e) (by omega)
theorem Inv.v_new {g : Gh} {w : World} (h : Inv g w) {b : Nat} (hb : w.heap.size ≤ b) : g.v b = none := by
  cases e : g.v b with
  | none => rfl
  | some t => exact absurd (h.v_lt e) (by omega)
theorem Inv.o_new {g : Gh} {w : World} (h : Inv g w) {b : Nat} (hb : w.heap.size ≤ b) : ¬ g.o b := fun e => absurd (h.o b e).2 (by omega)

/-- From there to here. -/
structure Ste (g : Gh) (w : World) (g' : Gh) (w' : World) : Prop where
  le : Gh.le w.heap.size g g'
  keep : Keep g w w'
  inv : Inv g' w'
theorem Ste.mor {g g' : Gh} {w w' : World} (h : Ste g w g' w') (hi : Inv g w) : Mor g w g' w' := ⟨h.le.l, h.le.v, h.le.o, fun b hb => h.keep.block b (hi.o b hb).2 (hi.o b hb).1⟩
theorem Ste.refl {g : Gh} {w : World} (h : Inv g w) : Ste g w g w := ⟨.refl _ _, .of_below (Below.refl _ _), h⟩
theorem Ste.trans {g g' g'' : Gh} {w w' w'' : World} (h : Ste g w g' w') (k : Ste g' w' g'' w'') : Ste g w g'' w'' :=
  ⟨h.le.trans k.le h.keep.size, ⟨k.keep.os.trans h.keep.os, k.keep.tape.trans h.keep.tape, k.keep.output.trans h.keep.output, Nat.le_trans h.keep.size k.keep.size,
    fun b hb hn => (k.keep.block b (Nat.lt_of_lt_of_le hb h.keep.size) (h.le.ln b hb hn)).trans (h.keep.block b hb hn)⟩, k.inv⟩
theorem Mor.of_below {g : Gh} {w w' : World} (h : Inv g w) (hb : Below w.heap.size w w') : Mor g w g w' := ⟨fun _ _ e => e, fun _ _ e => e, fun _ e => e, fun b hb' => hb.block _ (h.o b hb').2⟩
/-- Where only new blocks have come. -/
theorem Ste.below {g : Gh} {w w' : World} (h : Inv g w) (hb : Below w.heap.size w w') : Ste g w g w' :=
  ⟨.refl _ _, .of_below hb, ⟨fun b t ht => (h.l b t ht).along (.of_below h hb) (hb.block _ (h.l b t ht).lt), fun b v hv => (h.v b v hv).along (.of_below h hb), fun b ho => ⟨(h.o b ho).1, Nat.lt_of_lt_of_le (h.o b ho).2 hb.size⟩⟩⟩
theorem Ste.drew {g : Gh} {w : World} (h : Inv g w) : Ste g w g w.drew := .below h (Below.refl _ _).drew

/-- Blocks more that stay. -/
def Gh.addO (g : Gh) (P : Nat → Prop) : Gh := { g with o := fun b => g.o b ∨ P b }
def Gh.addL (g : Gh) (b : Nat) (t : Th) : Gh := { g with l := fun x => if x = b then some t else g.l x }
def Gh.addV (g : Gh) (b : Nat) (v : V) : Gh := { g with v := fun x => if x = b then some v else g.v x, o := fun x => g.o x ∨ x = b }
theorem Gh.addL_at (g : Gh) (b : Nat) (t : Th) : (g.addL b t).l b = some t := by show (if b = b then _ else _) = _; rw [if_pos rfl]
theorem Gh.addV_at (g : Gh) (b : Nat) (v : V) : (g.addV b v).v b = some v := by show (if b = b then _ else _) = _; rw [if_pos rfl]
theorem Gh.addL_ne (g : Gh) {b x : Nat} (t : Th) (h : x ≠ b) : (g.addL b t).l x = g.l x := by show (if x = b then _ else _) = _; rw [if_neg h]
theorem Gh.addV_ne (g : Gh) {b x : Nat} (v : V) (h : x ≠ b) : (g.addV b v).v x = g.v x := by show (if x = b then _ else _) = _; rw [if_neg h]
theorem Mor.addO {g : Gh} {w : World} (P : Nat → Prop) : Mor g w (g.addO P) w := ⟨fun _ _ e => e, fun _ _ e => e, fun _ e => .inl e, fun _ _ => rfl⟩
theorem Mor.addL {g : Gh} {w : World} {b : Nat} {t : Th} (h : g.l b = none) : Mor g w (g.addL b t) w := ⟨fun x u e => by
  rw [Gh.addL_ne _ _ (fun he => by rw [he, h] at e; cases e)]
  exact e, fun _ _ e => e, fun _ e => e, fun _ _ => rfl⟩
theorem Mor.addV {g : Gh} {w : World} {b : Nat} {v : V} (h : g.v b = none) : Mor g w (g.addV b v) w := ⟨fun _ _ e => e, fun x u e => by
  rw [Gh.addV_ne _ _ (fun he => by rw [he, h] at e; cases e)]
  exact e, fun _ e => .inl e, fun _ _ => rfl⟩

theorem Ste.addO {g g' : Gh} {w w' : World} (h : Ste g w g' w') (P : Nat → Prop) (hP : ∀ b, P b → w.heap.size ≤ b ∧ b < w'.heap.size ∧ g'.l b = none) : Ste g w (g'.addO P) w' :=
  ⟨⟨h.le.l, h.le.v, fun b e => .inl (h.le.o b e), h.le.ln, fun b hb e => by
    rcases e with e | e
    · exact h.le.on b hb e
    · exact absurd (hP b e).1 (by omega)⟩, h.keep, ⟨fun b t e => (h.inv.l b t e).along (.addO P) rfl, fun b v e => (h.inv.v b v e).along (.addO P), fun b e => by
    rcases e with e | e
    · exact h.inv.o b e
    · exact ⟨(hP b e).2.2, (hP b e).2.1⟩⟩⟩
/-- A thunk more. -/
theorem Ste.addL {g g' : Gh} {w w' : World} (h : Ste g w g' w') {b : Nat} {t : Th} (hb : w.heap.size ≤ b) (hn : g'.l b = none) (ho : ¬ g'.o b) (hl : LaterOK (g'.addL b t) w' b t) : Ste g w (g'.addL b t) w' := by
  refine ⟨⟨fun x u e => (Mor.addL (w := w') hn).l x u (h.le.l x u e), h.le.v, h.le.o, fun x hx e => ?_, h.le.on⟩, h.keep, ⟨fun x u e => ?_, fun x u e => (h.inv.v x u e).along (.addL hn), fun x e => ?_⟩⟩
  · rw [Gh.addL_ne _ _ (by omega)]; exact h.le.ln x hx e
  · by_cases hx : x = b
    · subst hx
      rw [Gh.addL_at] at e
      exact Option.some.inj e ▸ hl
    · rw [Gh.addL_ne _ _ hx] at e
      exact (h.inv.l x u e).along (.addL hn) rfl
  · have hx : x ≠ b := fun he => ho (he ▸ e)
    exact ⟨(Gh.addL_ne g' t hx).trans (h.inv.o x e).1, (h.inv.o x e).2⟩
theorem Ste.addV {g g' : Gh} {w w' : World} (h : Ste g w g' w') {b : Nat} {v : V} (hb : w.heap.size ≤ b) (hn : g'.v b = none) (hl : g'.l b = none) (hv : ValOK (g'.addV b v) w' b v) : Ste g w (g'.addV b v) w' := by
  refine ⟨⟨h.le.l, fun x u e => (Mor.addV (w := w') hn).v x u (h.le.v x u e), fun x e => .inl (h.le.o x e), h.le.ln, fun x hx e => ?_⟩, h.keep, ⟨fun x u e => (h.inv.l x u e).along (.addV hn) rfl, fun x u e => ?_, fun x e => ?_⟩⟩
  · rcases e with e | e
    · exact h.le.on x hx e
    · omega
  · by_cases hx : x = b
    · subst hx
      rw [Gh.addV_at] at e
      exact Option.some.inj e ▸ hv
    · rw [Gh.addV_ne _ _ hx] at e
      exact (h.inv.v x u e).along (.addV hn)
  · rcases e with e | e
    · exact h.inv.o x e
    · exact ⟨e ▸ hl, e ▸ hv.lt⟩
/-- The caller's own block is written, or another world comes that is so. -/
theorem Ste.own {g g' : Gh} {w w' w'' : World} (h : Ste g w g' w') {b : Nat} (hb : w.heap.size ≤ b) (hl : g'.l b = none) (ho : ¬ g'.o b)
    (h1 : w''.os = w'.os) (h2 : w''.tape = w'.tape) (h3 : w''.output = w'.output) (h4 : w'.heap.size ≤ w''.heap.size) (hr : ∀ k, k < w'.heap.size → k ≠ b → w''.heap[k]? = w'.heap[k]?) : Ste g w g' w'' := by
  have hm : Mor g' w' g' w'' := ⟨fun _ _ e => e, fun _ _ e => e, fun _ e => e, fun x hx => hr x (h.inv.o x hx).2 (fun he => ho (he ▸ hx))⟩
  refine ⟨h.le, ⟨h1.trans h.keep.os, h2.trans h.keep.tape, h3.trans h.keep.output, Nat.le_trans h.keep.size h4, fun k hk hn => (hr k (Nat.lt_of_lt_of_le hk h.keep.size) (by omega)).trans (h.keep.block k hk hn)⟩, ⟨fun x u e => ?_, fun x u e => (h.inv.v x u e).along hm, fun x e => ⟨(h.inv.o x e).1, Nat.lt_of_lt_of_le (h.inv.o x e).2 h4⟩⟩⟩
  exact (h.inv.l x u e).along hm (hr x (h.inv.l_lt e) (fun he => by rw [he, hl] at e; cases e))
theorem Ste.setCell {g g' : Gh} {w w' : World} (h : Ste g w g' w') {x : Addr} (hb : w.heap.size ≤ x.block) (hl : g'.l x.block = none) (ho : ¬ g'.o x.block) (v : Value) : Ste g w g' (w'.setCell x v) :=
  h.own hb hl ho rfl rfl rfl (by simp [World.setCell]) fun k _ hk => Below.heap_setCell _ _ _ _ hk
/-- A thunk is worked out. -/
theorem Ste.done {g : Gh} {w w' : World} (h : Inv g w) {b q : Nat} {t : Th} {v : V} (hl : g.l b = some t) (hv : g.v q = some v) (hy : Evx.Yields t v)
    (h1 : w'.os = w.os) (h2 : w'.tape = w.tape) (h3 : w'.output = w.output) (h4 : w'.heap.size = w.heap.size) (hb : Blk w' b #[.nilFunc, ptr q] 85) (hr : ∀ k, k ≠ b → w'.heap[k]? = w.heap[k]?) : Ste g w g w' := by
  have hm : Mor g w g w' := ⟨fun _ _ e => e, fun _ _ e => e, fun _ e => e, fun x hx => hr x (fun he => by rw [he] at hx; have := (h.o b hx).1; rw [hl] at this; cases this)⟩
  refine ⟨.refl _ _, ⟨h1, h2, h3, by omega, fun k _ hn => hr k (fun he => by rw [he, hl] at hn; cases hn)⟩, ⟨fun x u e => ?_, fun x u e => (h.v x u e).along hm, fun x e => ⟨(h.o x e).1, by have := (h.o x e).2; omega⟩⟩⟩
  by_cases hx : x = b
  · subst hx
    rw [hl] at e
    obtain rfl := Option.some.inj e
    exact .inl ⟨q, v, hb, hv, hy⟩
  · exact (h.l x u e).along hm (hr x hx)
end Go.Proofs.YthfjmcomhccbaaaGreatDoor

namespace Go.Proofs.YthfjmcomhccbaaaGreatDoor
open Go.RowKit Tmx Evx
set_option maxRecDepth 60000

theorem Mor.trans {a b c : Gh} {w w' w'' : World} (h : Mor a w b w') (k : Mor b w' c w'') : Mor a w c w'' :=
  ⟨fun _ _ e => k.l _ _ (h.l _ _ e), fun _ _ e => k.v _ _ (h.v _ _ e), fun _ e => k.o _ (h.o _ e), fun b hb => (k.same b (h.o b hb)).trans (h.same b hb)⟩
/-- New blocks come, some of which stay. -/
theorem Ste.grow {g g1 : Gh} {w w1 W : World} (hs : Ste g w g1 w1) (hb : Below w1.heap.size w1 W) (P : Nat → Prop) (hP : ∀ b, P b → w1.heap.size ≤ b ∧ b < W.heap.size) : Ste g w (g1.addO P) W ∧ Mor g1 w1 (g1.addO P) W :=
  ⟨(hs.trans (.below hs.inv hb)).addO P fun b h => ⟨Nat.le_trans hs.keep.size (hP b h).1, (hP b h).2, hs.inv.l_new (hP b h).1⟩, (Mor.of_below hs.inv hb).trans (.addO P)⟩
theorem Mor.growL {g1 : Gh} {w1 W : World} (hi : Inv g1 w1) (hb : Below w1.heap.size w1 W) {b : Nat} (t : Th) (h1 : w1.heap.size ≤ b) : Mor g1 w1 (g1.addL b t) W := (Mor.of_below hi hb).trans (.addL (hi.l_new h1))
/-- New blocks come, one of which is a thunk's. -/
theorem Ste.growL {g g1 : Gh} {w w1 W : World} (hs : Ste g w g1 w1) (hb : Below w1.heap.size w1 W) {b : Nat} {t : Th} (h1 : w1.heap.size ≤ b) (hl : LaterOK (g1.addL b t) W b t) : Ste g w (g1.addL b t) W :=
  (hs.trans (.below hs.inv hb)).addL (Nat.le_trans hs.keep.size h1) (hs.inv.l_new h1) (hs.inv.o_new h1) hl
theorem Mor.growV {g1 : Gh} {w1 W : World} (hi : Inv g1 w1) (hb : Below w1.heap.size w1 W) {b : Nat} (v : V) (h1 : w1.heap.size ≤ b) : Mor g1 w1 (g1.addV b v) W := (Mor.of_below hi hb).trans (.addV (hi.v_new h1))
theorem Ste.growV {g g1 : Gh} {w w1 W : World} (hs : Ste g w g1 w1) (hb : Below w1.heap.size w1 W) {b : Nat} {v : V} (h1 : w1.heap.size ≤ b) (hv : ValOK (g1.addV b v) W b v) : Ste g w (g1.addV b v) W :=
  (hs.trans (.below hs.inv hb)).addV (Nat.le_trans hs.keep.size h1) (hs.inv.v_new h1) (hs.inv.l_new h1) hv
/-- A block of another type is no thunk's. -/
theorem Inv.not_l {g : Gh} {w : World} (h : Inv g w) {b : Nat} {cs : Array Value} {T : TypeId} (hb : Blk w b cs T) (hT : T ≠ 85) : g.l b = none := by
  cases e : g.l b with
  | none => rfl
  | some t =>
    exfalso
    rcases h.l b t e with ⟨q, v, hb', _⟩ | ⟨x, hb', _⟩ <;>
    · unfold Blk at hb hb'
      rw [hb] at hb'
      simp only [Option.some.injEq, Obj.cells.injEq] at hb'
      exact hT hb'.2.1

/-- A thunk that is known. -/
def LatP (g : Gh) (w : World) (t : Th) (e : Ending) (w' : World) : Prop := ∃ g' b, e = .returned (ptr b) ∧ Ste g w g' w' ∧ g'.l b = some t

theorem known_any (q : Nat) (v : V) (g : Gh) (w : World) (hi : Inv g w) (hv : g.v q = some v) :
    Calls Tryz.prog 64 #[ptr q] w (LatP g w (.val v)) := by
  unfold ptr
  go_enter Tryz.func64, Tryz.ntmps64
  go_wp2
  have hb : Below w.heap.size w (w.alloc (.cells #[.nilFunc, .pointer (some ⟨q, 0, none⟩)] 85)) := (Below.refl _ _).alloc (Nat.le_refl _) _
  have h1 := Ste.below hi hb
  have h2 := h1.addL (t := .val v) (Nat.le_refl _) (hi.l_new (Nat.le_refl _)) (hi.o_new (Nat.le_refl _)) (.inl ⟨q, v, Blk.new w _ _, hv, .val v⟩)
  refine bodyPost_ret (v := .pointer (some ⟨w.heap.size, 0, none⟩)) (by simp [results, Tryz.results64, go_sem]) rfl ⟨_, _, rfl, h2, Gh.addL_at _ _ _⟩

theorem free_any (n : Int) (g : Gh) (w : World) (hi : Inv g w) :
    Calls Tryz.prog 49 #[.int .i64 n] w (LatP g w (.val (free n))) := by
  have hb : Below w.heap.size w (w.alloc (.cells #[.int .i64 1, .int .i64 n, .slice none 0 0] 88)) := (Below.refl _ _).alloc (Nat.le_refl _) _
  have h1 := Ste.below hi hb
  have h2 := h1.addV (v := free n) (Nat.le_refl _) (hi.v_new (Nat.le_refl _)) (hi.l_new (Nat.le_refl _)) ⟨none, 0, ⟨.inr rfl, Blk.new w _ _⟩, fun h => absurd (show 0 < 0 from h) (Nat.lt_irrefl 0)⟩
  have HC := known_any w.heap.size (free n) _ _ h2.inv (Gh.addV_at _ _ _)
  unfold ptr at HC
  go_enter Tryz.func49, Tryz.ntmps49
  go_wp2_with fail
  refine HC.mono ?_
  rintro e w1 ⟨g1, b, rfl, hs, hl⟩
  unfold ptr
  go_wp2_with fail
  refine bodyPost_ret (v := .pointer (some ⟨b, 0, none⟩)) (by simp [results, Tryz.results49, go_sem]) rfl ⟨g1, b, rfl, h2.trans hs, hl⟩
end Go.Proofs.YthfjmcomhccbaaaGreatDoor
