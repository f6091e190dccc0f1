/-
  Lists of terms that lie in new blocks, and how such a list is filled term by term.
-/
/-
  The reader of a text as it lies in memory, and worlds in which it alone, and new blocks, have turned.
-/
/-
  What strconv.Atoi and strconv.Itoa answer, at every text, and every number: off the library's shelf.
-/
/-
  What the listed variables give.
-/
/-
  The shelf's numbers at this dump, for strings.Join, strings.Index and strings.Clone.
-/
/-
  What the small functions answer: a variable's term, how many are bound, the shape of a kind.
-/
import Derived.Test.YthfjmcomhccbaaaGreatDoorLaidGm
import Derived.Deep.OwnRows
import Derived.Shelf.Strconv.AtoiAll
import Derived.Shelf.Strconv.ErrVarAll
import Derived.Shelf.Strconv.Itoa3
import Derived.Lib.AtoiErrMem
import Derived.WalkKit
import Derived.BigCall
import Derived.Test.YthfjmcomhccbaaaGreatDoorRows
import Derived.Stop.LaidErr
import Derived.Lib.LaidTab
import Derived.SliceStrings
import Derived.ProofKit
import Derived.Shelf.Strings.OnBuilder
import Derived.Shelf.Strings.Search3
import Derived.Shelf.Strconv.Clone
import Derived.Ground.NamesProg
import Derived.Test.YthfjmcomhccbaaaGreatDoorProg
import Derived.WalkSpells
import Derived.WalkLawsBesides
namespace Tmx
open Go Go.Deep Go.RowKit

/-- The block B is a term's three cells. -/
def Box (w : World) (B : Nat) (a b c : Value) : Prop := w.heap[B]? = some (.cells #[a, b, c] 30 (0, 0))
theorem Box.lt {w : World} {B : Nat} {a b c : Value} (h : Box w B a b c) : B < w.heap.size := by
  obtain ⟨hlt, _⟩ := Array.getElem?_eq_some_iff.1 h
  exact hlt
theorem Box.facts {w : World} {B : Nat} {a b c : Value} (h : Box w B a b c) :
    w.cell? ⟨B, 0, none⟩ = some a ∧ w.cell? ⟨B, 1, none⟩ = some b ∧ w.cell? ⟨B, 2, none⟩ = some c ∧ w.frozen? ⟨B, 0, none⟩ = false ∧ w.frozen? ⟨B, 1, none⟩ = false ∧ w.frozen? ⟨B, 2, none⟩ = false := by
  unfold Box at h
  simp [World.cell?, World.frozen?, h]
theorem Box.new (w : World) (a b c : Value) : Box (w.alloc (.cells #[a, b, c] 30)) w.heap.size a b c := blk_alloc_new _ _
theorem Box.alloc {w : World} {B : Nat} {a b c : Value} (h : Box w B a b c) (o : Obj) : Box (w.alloc o) B a b c := by
  unfold Box
  rw [Below.heap_alloc _ _ _ h.lt]
  exact h
theorem Box.below {w w' : World} {B : Nat} {a b c : Value} (h : Box w B a b c) (hb : Below w.heap.size w w') : Box w' B a b c := by
  unfold Box
  rw [hb.block _ h.lt]
  exact h
theorem Box.setOther {w : World} {B : Nat} {a b c : Value} (h : Box w B a b c) {x : Addr} (hx : B ≠ x.block) (v : Value) : Box (w.setCell x v) B a b c := by
  unfold Box
  rw [Below.heap_setCell _ _ _ _ hx]
  exact h
theorem Box.set0 {w : World} {B : Nat} {a b c : Value} (h : Box w B a b c) (a' : Value) : Box (w.setCell ⟨B, 0, none⟩ a') B a' b c := by
  unfold Box at *
  simp [World.setCell, Array.getElem?_modify, h]
theorem Box.set2 {w : World} {B : Nat} {a b c : Value} (h : Box w B a b c) (c' : Value) : Box (w.setCell ⟨B, 2, none⟩ c') B a b c' := by
  unfold Box at *
  simp [World.setCell, Array.getElem?_modify, h]
/-- Three cells written anew. -/
theorem Box.set {w : World} {B : Nat} {a b c : Value} (h : Box w B a b c) (a' b' c' : Value) : Box (((w.setCell ⟨B, 0, none⟩ a').setCell ⟨B, 1, none⟩ b').setCell ⟨B, 2, none⟩ c') B a' b' c' := by
  unfold Box at *
  simp [World.setCell, Array.getElem?_modify, h]

/-- The terms f lie in w from the cell o of the block b on, all in blocks from lo on. -/
def RowF (lo : Nat) (w : World) (b o : Nat) : F → Prop
  | .nil => True
  | .node _ _ a l r =>
    lo ≤ b ∧ w.cell? ⟨b, o, none⟩ = some (.int .i64 a.1) ∧ w.cell? ⟨b, o + 1, none⟩ = some (.int .i64 a.2) ∧
    (∃ p b' o' cap, w.cell? ⟨b, o + 2, none⟩ = some (.slice p (len l) cap) ∧ (0 < len l → p = some ⟨b', o', none⟩) ∧ RowF lo w b' o' l) ∧
    RowF lo w b (o + 3) r
/-- The slice that begins at p holds the terms f in w, all in blocks from lo on. -/
def SlF (lo : Nat) (w : World) (p : Option Addr) (f : F) : Prop := ∃ b o, (0 < len f → p = some ⟨b, o, none⟩) ∧ RowF lo w b o f

theorem RowF.row {lo : Nat} {w : World} : ∀ (f : F) (b o : Nat), RowF lo w b o f → Row w b o f
  | .nil, _, _, _ => trivial
  | .node _ _ a l r, b, o, hr => by
    obtain ⟨_, h1, h2, ⟨p, b', o', cap, h3, h4, h6⟩, h5⟩ := hr
    exact ⟨h1, h2, ⟨p, b', o', cap, h3, h4, RowF.row l b' o' h6⟩, RowF.row r b (o + 3) h5⟩
theorem SlF.sl {lo : Nat} {w : World} {p : Option Addr} {f : F} (h : SlF lo w p f) : Sl w p f :=
  let ⟨b, o, h1, h2⟩ := h
  ⟨b, o, h1, h2.row⟩
theorem SlF.nil (lo : Nat) (w : World) (p : Option Addr) : SlF lo w p .nil := ⟨0, 0, fun h => by simp [len] at h, trivial⟩

/-- What a row holds hangs on its own blocks alone. -/
theorem RowF.carry {lo : Nat} {w w' : World} (h : ∀ b o v, lo ≤ b → w.cell? ⟨b, o, none⟩ = some v → w'.cell? ⟨b, o, none⟩ = some v) : ∀ (f : F) (b o : Nat), RowF lo w b o f → RowF lo w' b o f
  | .nil, _, _, _ => trivial
  | .node _ _ a l r, b, o, hr => by
    obtain ⟨h0, h1, h2, ⟨p, b', o', cap, h3, h4, h6⟩, h5⟩ := hr
    exact ⟨h0, h _ _ _ h0 h1, h _ _ _ h0 h2, ⟨p, b', o', cap, h _ _ _ h0 h3, h4, RowF.carry h l b' o' h6⟩, RowF.carry h r b (o + 3) h5⟩
theorem SlF.carry {lo : Nat} {w w' : World} (h : ∀ b o v, lo ≤ b → w.cell? ⟨b, o, none⟩ = some v → w'.cell? ⟨b, o, none⟩ = some v) {p : Option Addr} {f : F} (hs : SlF lo w p f) : SlF lo w' p f :=
  let ⟨b, o, h1, h2⟩ := hs
  ⟨b, o, h1, h2.carry h⟩
theorem below_some {w w' : World} (h : Below w.heap.size w w') (b o : Nat) (v : Value) (hc : w.cell? ⟨b, o, none⟩ = some v) : w'.cell? ⟨b, o, none⟩ = some v := by
  rw [h.cell (p := ⟨b, o, none⟩) (World.block_lt_of_cell? w ⟨b, o, none⟩ hc)]
  exact hc
theorem SlF.below {lo : Nat} {w w' : World} (h : Below w.heap.size w w') {p : Option Addr} {f : F} (hs : SlF lo w p f) : SlF lo w' p f :=
  hs.carry fun b o v _ => below_some h b o v
theorem RowF.mono {lo lo' : Nat} {w : World} (hl : lo' ≤ lo) : ∀ (f : F) (b o : Nat), RowF lo w b o f → RowF lo' w b o f
  | .nil, _, _, _ => trivial
  | .node _ _ a l r, b, o, hr => by
    obtain ⟨h0, h1, h2, ⟨p, b', o', cap, h3, h4, h6⟩, h5⟩ := hr
    exact ⟨by omega, h1, h2, ⟨p, b', o', cap, h3, h4, RowF.mono hl l b' o' h6⟩, RowF.mono hl r b (o + 3) h5⟩
theorem SlF.mono {lo lo' : Nat} {w : World} (hl : lo' ≤ lo) {p : Option Addr} {f : F} (hs : SlF lo w p f) : SlF lo' w p f :=
  let ⟨b, o, h1, h2⟩ := hs
  ⟨b, o, h1, h2.mono hl⟩

theorem SlF.setCell {lo : Nat} {w : World} {p : Option Addr} {f : F} (hs : SlF lo w p f) {x : Addr} (hx : x.block < lo) (v : Value) : SlF lo (w.setCell x v) p f :=
  hs.carry fun b o u hb hc => by rw [World.cell?_of_block (w := w) (Below.heap_setCell _ _ _ _ (by show b ≠ x.block; omega))]; exact hc

/-- The first j of the terms f lie in the block B from the cell o on; their own arguments behind that block. -/
def RowP (B : Nat) (w : World) : Nat → Nat → F → Prop
  | 0, _, _ => True
  | _ + 1, _, .nil => True
  | j + 1, o, .node _ _ a l r =>
    w.cell? ⟨B, o, none⟩ = some (.int .i64 a.1) ∧ w.cell? ⟨B, o + 1, none⟩ = some (.int .i64 a.2) ∧
    (∃ p cap, w.cell? ⟨B, o + 2, none⟩ = some (.slice p (len l) cap) ∧ SlF (B + 1) w p l) ∧ RowP B w j (o + 3) r

theorem RowP.carry {B : Nat} {w w' : World} : ∀ (j : Nat) (f : F) (o : Nat), (∀ i v, o ≤ i → i < o + j * 3 → w.cell? ⟨B, i, none⟩ = some v → w'.cell? ⟨B, i, none⟩ = some v) →
    (∀ b o v, B + 1 ≤ b → w.cell? ⟨b, o, none⟩ = some v → w'.cell? ⟨b, o, none⟩ = some v) → RowP B w j o f → RowP B w' j o f
  | 0, _, _, _, _, _ => trivial
  | _ + 1, .nil, _, _, _, _ => trivial
  | j + 1, .node _ _ a l r, o, h, h', hr => by
    obtain ⟨h1, h2, ⟨p, cap, h3, h4⟩, h5⟩ := hr
    exact ⟨h _ _ (by omega) (by omega) h1, h _ _ (by omega) (by omega) h2, ⟨p, cap, h _ _ (by omega) (by omega) h3, h4.carry h'⟩, RowP.carry j r (o + 3) (fun i v hi hi' => h i v (by omega) (by omega)) h' h5⟩

/-- One term more. -/
theorem RowP.snoc {B : Nat} {w : World} {p : Option Addr} {cap : Nat} : ∀ (j : Nat) (f : F) (o : Nat) {x y : Nat} {a : Int × Int} {l r : F}, drop j f = .node x y a l r → RowP B w j o f →
    w.cell? ⟨B, o + j * 3, none⟩ = some (.int .i64 a.1) → w.cell? ⟨B, o + j * 3 + 1, none⟩ = some (.int .i64 a.2) → w.cell? ⟨B, o + j * 3 + 2, none⟩ = some (.slice p (len l) cap) → SlF (B + 1) w p l → RowP B w (j + 1) o f
  | 0, .nil, _, _, _, _, _, _, e, _, _, _, _, _ => by simp [drop] at e
  | 0, .node _ _ _ _ _, o, _, _, _, _, _, e, _, h1, h2, h3, h4 => by
    simp only [drop, BT.node.injEq] at e
    obtain ⟨_, _, rfl, rfl, rfl⟩ := e
    exact ⟨by simpa using h1, by simpa using h2, ⟨p, cap, by simpa using h3, h4⟩, trivial⟩
  | j + 1, .nil, _, _, _, _, _, _, e, _, _, _, _, _ => by simp [drop] at e
  | j + 1, .node _ _ _ _ r', o, _, _, _, _, _, e, hr, h1, h2, h3, h4 => by
    obtain ⟨g1, g2, g3, g5⟩ := hr
    rw [drop] at e
    have e3 : o + (j + 1) * 3 = o + 3 + j * 3 := by omega
    rw [e3] at h1 h2 h3
    exact ⟨g1, g2, g3, RowP.snoc j r' (o + 3) e g5 h1 h2 h3 h4⟩

/-- All of them. -/
theorem RowP.all {B lo : Nat} {w : World} (hlo : lo ≤ B) : ∀ (f : F) (o : Nat), RowP B w (len f) o f → RowF lo w B o f
  | .nil, _, _ => trivial
  | .node _ _ a l r, o, hr => by
    rw [len] at hr
    obtain ⟨h1, h2, ⟨p, cap, h3, b', o', h4, h6⟩, h5⟩ := hr
    exact ⟨hlo, h1, h2, ⟨p, b', o', cap, h3, h4, h6.mono (by omega)⟩, RowP.all hlo r (o + 3) h5⟩

/-- A term's three cells stored into a row. -/
theorem store3 {w : World} {B m j : Nat} {G : Nat → Value} (hG : w.rowIs B 30 (m * 3) G) (hj : j < m) (a b c : Value) :
    ∃ w2, ((w.setCell ⟨B, j * 3, none⟩ a).setCell ⟨B, j * 3 + 1, none⟩ b).setCell ⟨B, j * 3 + 2, none⟩ c = w2 ∧ (∃ G', w2.rowIs B 30 (m * 3) G') ∧
      w2.cell? ⟨B, j * 3, none⟩ = some a ∧ w2.cell? ⟨B, j * 3 + 1, none⟩ = some b ∧ w2.cell? ⟨B, j * 3 + 2, none⟩ = some c ∧
      (∀ i v, i < j * 3 → w.cell? ⟨B, i, none⟩ = some v → w2.cell? ⟨B, i, none⟩ = some v) ∧
      (∀ x, x ≠ B → w2.heap[x]? = w.heap[x]?) ∧ (∀ lo, lo ≤ B → Below lo w w2) := by
  have h3 := ((hG.set (j * 3) a).set (j * 3 + 1) b).set (j * 3 + 2) c
  refine ⟨_, rfl, ⟨_, h3⟩, ?_, ?_, ?_, fun i v hi hv => ?_, fun x hx => ?_, fun lo hlo => ?_⟩
  · rw [h3.cell (by omega)]; simp
  · rw [h3.cell (by omega)]; simp
  · rw [h3.cell (by omega)]; simp
  · rw [hG.cell (by omega)] at hv
    rw [h3.cell (by omega), if_neg (by omega), if_neg (by omega), if_neg (by omega)]
    exact hv
  · rw [Below.heap_setCell _ _ _ _ hx, Below.heap_setCell _ _ _ _ hx, Below.heap_setCell _ _ _ _ hx]
  · exact (((Below.refl _ _).setCell hlo _).setCell hlo _).setCell hlo _
theorem Box.of_block {w w' : World} {B : Nat} {a b c : Value} (h : Box w B a b c) (e : w'.heap[B]? = w.heap[B]?) : Box w' B a b c := by
  unfold Box
  rw [e]
  exact h
end Tmx

namespace Tmx
open Go Go.Deep Go.RowKit

/-- A text as a value. -/
def str (l : List UInt8) : Value := .string ⟨l.toArray⟩

/-- But for the block r, and new blocks, w' is as w was. -/
structure Kept (r : Nat) (w w' : World) : Prop where
  os : w'.os = w.os
  tape : w'.tape = w.tape
  output : w'.output = w.output
  size : w.heap.size ≤ w'.heap.size
  block : ∀ k, k < w.heap.size → k ≠ r → w'.heap[k]? = w.heap[k]?

theorem Kept.refl (r : Nat) (w : World) : Kept r w w := ⟨rfl, rfl, rfl, Nat.le_refl _, fun _ _ _ => rfl⟩
theorem Kept.trans {r : Nat} {a b c : World} (h : Kept r a b) (k : Kept r b c) : Kept r a c :=
  ⟨k.os.trans h.os, k.tape.trans h.tape, k.output.trans h.output, Nat.le_trans h.size k.size, fun i hi hr => (k.block i (Nat.lt_of_lt_of_le hi h.size) hr).trans (h.block i hi hr)⟩
theorem Kept.of_below {r : Nat} {w w' : World} (h : Below w.heap.size w w') : Kept r w w' := ⟨h.os, h.tape, h.output, h.size, fun k hk _ => h.block k hk⟩
theorem Kept.alloc (r : Nat) (w : World) (o : Obj) : Kept r w (w.alloc o) := .of_below ((Below.refl _ _).alloc (Nat.le_refl _) _)
theorem Kept.drew (r : Nat) (w : World) : Kept r w w.drew := .of_below (Below.refl _ _).drew
theorem Kept.set (w : World) (x : Addr) (v : Value) : Kept x.block w (w.setCell x v) :=
  ⟨rfl, rfl, rfl, by simp [World.setCell], fun k _ hk => Below.heap_setCell _ _ _ _ hk⟩
/-- A store into a block that is new. -/
theorem Kept.setNew {r : Nat} {w w' : World} (h : Kept r w w') {x : Addr} (hx : w.heap.size ≤ x.block) (v : Value) : Kept r w (w'.setCell x v) :=
  ⟨h.os, h.tape, h.output, by have := h.size; simpa [World.setCell] using this, fun k hk hr => by rw [Below.heap_setCell _ _ _ _ (by omega)]; exact h.block k hk hr⟩
theorem Kept.below {r B : Nat} {w w' : World} (h : Kept r w w') (hr : B ≤ r) (hB : B ≤ w.heap.size) : Below B w w' :=
  ⟨h.os, h.tape, h.output, h.size, fun k hk => h.block k (by omega) (by omega)⟩
theorem Kept.cell {r : Nat} {w w' : World} (h : Kept r w w') {b o : Nat} {v : Value} (hb : b ≠ r) (hc : w.cell? ⟨b, o, none⟩ = some v) : w'.cell? ⟨b, o, none⟩ = some v := by
  rw [World.cell?_of_block (w := w) (h.block b (World.block_lt_of_cell? w ⟨b, o, none⟩ hc) hb)]
  exact hc
theorem Kept.box {r : Nat} {w w' : World} (h : Kept r w w') {B : Nat} {a b c : Value} (hB : B ≠ r) (hx : Box w B a b c) : Box w' B a b c := hx.of_block (h.block B hx.lt hB)

/-- What is left behind the blanks. -/
def skip : List UInt8 → List UInt8
  | [] => []
  | c :: r => if c = 32 ∨ c = 10 then skip r else c :: r
/-- How many signs of a word stand at the beginning. -/
def wlen : List UInt8 → Nat
  | [] => 0
  | c :: r => if c = 32 ∨ c = 10 ∨ c = 40 ∨ c = 41 then 0 else wlen r + 1
/-- How long the next word is, where no blank stands first. -/
def plen (l : List UInt8) : Nat := if wlen l = 0 ∧ 0 < l.length then 1 else wlen l
/-- The next word; none: empty. -/
def peekW (l : List UInt8) : List UInt8 := (skip l).take (plen (skip l))
/-- What is left behind the next word. -/
def restW (l : List UInt8) : List UInt8 := (skip l).drop (plen (skip l))
def failE (E e : Int) : Int := if E = 0 then e else E
/-- The error behind a word that is taken. -/
def wE (l : List UInt8) (E : Int) : Int := if peekW l = [] then failE E 8 else E

theorem wlen_le : ∀ l, wlen l ≤ l.length
  | [] => Nat.le_refl _
  | c :: r => by rw [wlen]; split <;> simp; exact wlen_le r
theorem plen_le (l : List UInt8) : plen l ≤ l.length := by
  unfold plen
  split
  · omega
  · exact wlen_le l
theorem skip_self (c : UInt8) (r : List UInt8) (h : ¬ (c = 32 ∨ c = 10)) : skip (c :: r) = c :: r := by rw [skip, if_neg h]
theorem wlen_zero (c : UInt8) (r : List UInt8) : wlen (c :: r) = 0 ↔ (c = 32 ∨ c = 10 ∨ c = 40 ∨ c = 41) := by
  rw [wlen]
  split <;> simp_all
theorem wlen_succ (c : UInt8) (r : List UInt8) (h : ¬ (c = 32 ∨ c = 10 ∨ c = 40 ∨ c = 41)) : wlen (c :: r) = wlen r + 1 := by rw [wlen, if_neg h]
theorem byte_ne (c : UInt8) (n : Nat) (h : ¬ c.toNat = n) : ((c.toNat : Int) != (n : Int)) = true := by
  rw [bne_iff_ne]
  omega
theorem skip_len : ∀ l, (skip l).length ≤ l.length
  | [] => Nat.le_refl _
  | c :: r => by rw [skip]; split <;> simp; exact Nat.le_succ_of_le (skip_len r)
end Tmx

namespace Go.Proofs.YthfjmcomhccbaaaGreatDoor
open Go.Shelf Go.RowKit Tmx
set_option maxRecDepth 60000

theorem atoi_ok (s : ByteArray) (hmax : s.size ≤ 9223372036854775806) (v : Int) (h : Lib.atoiAll s.data.toList = .ok v) (w : World) :
    Calls Tryz.prog 120 #[.string s] w fun e w' => e = .returned (.tuple #[.int .i64 v, .nilIface]) ∧ Below w.heap.size w w' :=
  (Any.strconv_Atoi_ok Tryz.laysAtoi s hmax v h w).mono fun e w' ⟨h1, h2⟩ => ⟨h1, by
    rcases h2 with rfl | ⟨t, rfl⟩
    · exact Below.refl _ _
    · exact Lib.bytesWorld_below _ _ _⟩
theorem atoi_err (s : ByteArray) (hlim : s.size ≤ 281474976710656) (h : ∀ v, Lib.atoiAll s.data.toList ≠ .ok v) (w : World) (hsyn : ∃ tp p, w.var? Tryz.prog "strconv.ErrSyntax" = some #[.iface tp p]) (hran : ∃ tp p, w.var? Tryz.prog "strconv.ErrRange" = some #[.iface tp p]) :
    Calls Tryz.prog 120 #[.string s] w fun e w' => (∃ v T p, e = .returned (.tuple #[.int .i64 v, .iface T p])) ∧ Below w.heap.size w w' := by
  obtain ⟨t1, p1, h1⟩ := hsyn
  obtain ⟨t2, p2, h2⟩ := hran
  rcases e : Lib.atoiAll s.data.toList with v | _ | _
  · exact absurd e (h v)
  · exact (Any.strconv_Atoi_syntax_var Tryz.laysAtoi s hlim e t1 p1 w h1).mono fun _ _ ⟨_, h1, _, _, h2⟩ => ⟨⟨_, _, _, h1⟩, h2⟩
  · exact (Any.strconv_Atoi_range_var Tryz.laysAtoi s hlim e t2 p2 w h2).mono fun _ _ ⟨_, h1, _, _, h2⟩ => ⟨⟨_, _, _, h1⟩, h2⟩
theorem itoa_any (n : Int) (h0 : -9223372036854775808 ≤ n) (h1 : n ≤ 9223372036854775807) (w : World) (htab : Lib.TabIs Tryz.prog w "internal/strconv.uint64pow10" .u64 Lib.pow10Tab) :
    Calls Tryz.prog 121 #[.int .i64 n] w fun e w' => e = .returned (.string ⟨(Lib.itoa n).toArray⟩) ∧ Below w.heap.size w w' :=
  (Any.strconv_Itoa Tryz.laysItoa n h0 h1 w htab).mono fun e w' ⟨h1, k, os, h2⟩ => ⟨h1, by
    subst h2
    exact ⟨rfl, rfl, rfl, by simp [World.drewN], fun k hk => by
      show ((w.drewN _).heap ++ os)[k]? = w.heap[k]?
      rw [Array.getElem?_append_left (by simpa [World.drewN] using hk)]
      rfl⟩⟩

/-- The kinds' words, as they are laid. -/
def wordsT : List (List UInt8) := [[], [], [], [112, 105], [102, 110], [], [115, 105, 103], [112, 97, 105, 114], [102, 115, 116], [115, 110, 100], [117, 110, 105, 116], [115, 116, 97, 114], [101, 109, 112, 116, 121], [97, 98, 115, 117, 114, 100], [110, 97, 116], [122, 101, 114, 111], [115, 117, 99], [114, 101, 99]]
def wordsC : Array Value := (wordsT.map fun l => Value.string ⟨l.toArray⟩).toArray
/-- What is laid of the variables; the block r is none of them. -/
def Vs (r : Nat) (w : World) : Prop := 9 ≤ r ∧ (∃ tp p, w.var? Tryz.prog "strconv.ErrSyntax" = some #[.iface tp p]) ∧ (∃ tp p, w.var? Tryz.prog "strconv.ErrRange" = some #[.iface tp p]) ∧ Lib.TabIs Tryz.prog w "internal/strconv.uint64pow10" .u64 Lib.pow10Tab ∧ w.var? Tryz.prog "sortkernel/text.words" = some wordsC
theorem var_kept {w w' : World} {n : String} {g : Nat} {cs : Array Value} (hg : Tryz.prog.globalNamed n = some g) (hv : w.var? Tryz.prog n = some cs) (hb : g < w.heap.size → w'.heap[g]? = w.heap[g]?) : w'.var? Tryz.prog n = some cs := by
  have hlt : g < w.heap.size := by
    rcases Nat.lt_or_ge g w.heap.size with h | h
    · exact h
    · simp [World.var?, hg, Array.getElem?_eq_none h] at hv
  simpa [World.var?, hg, hb hlt] using hv
theorem gSyntax : Tryz.prog.globalNamed "strconv.ErrSyntax" = some 7 := by kernel_rfl
theorem gRange : Tryz.prog.globalNamed "strconv.ErrRange" = some 8 := by kernel_rfl
theorem gPow : Tryz.prog.globalNamed "internal/strconv.uint64pow10" = some 4 := by kernel_rfl
theorem gWords : Tryz.prog.globalNamed "sortkernel/text.words" = some 3 := by kernel_rfl
theorem Vs.along {r : Nat} {w w' : World} (h : Vs r w) (hb : ∀ g, g < 9 → g < w.heap.size → w'.heap[g]? = w.heap[g]?) : Vs r w' := by
  obtain ⟨h0, ⟨t1, p1, h1⟩, ⟨t2, p2, h2⟩, h3, h4⟩ := h
  exact ⟨h0, ⟨t1, p1, var_kept gSyntax h1 (hb _ (by omega))⟩, ⟨t2, p2, var_kept gRange h2 (hb _ (by omega))⟩, var_kept gPow h3 (hb _ (by omega)), var_kept gWords h4 (hb _ (by omega))⟩
theorem Vs.kept {r : Nat} {w w' : World} (h : Vs r w) (hk : Kept r w w') : Vs r w' := h.along fun g h3 hg => hk.block g hg (by have := h.1; omega)
theorem Vs.below {r : Nat} {w w' : World} (h : Vs r w) (hk : Below w.heap.size w w') : Vs r w' := h.along fun g _ hg => hk.block g hg
/-- The words' table in memory. -/
theorem Vs.words {r : Nat} {w : World} (h : Vs r w) : ∃ t f, w.heap[3]? = some (.cells wordsC t f) := by
  have h4 := h.2.2.2.2
  simp only [World.var?, gWords] at h4
  cases e : w.heap[3]? with
  | none => simp [e] at h4
  | some o => cases o <;> simp_all
end Go.Proofs.YthfjmcomhccbaaaGreatDoor

namespace Go.Proofs.YthfjmcomhccbaaaGreatDoor
open Go.RowKit Tmx Go.ChangeShapes Go.WideShapes
set_option maxRecDepth 60000

/-- An array of texts that reads as these holds them. -/
theorem cells_of_texts {H : Type} {enc : TypeId × Value → H} {P : Program} {w : World} {base : Nat} {sp : Nat → Bool} {held : Bool} {fuel : Nat} {t e : TypeId} {n : Nat} {cs : List Value} {zs : List (List UInt8)} {p : List MemPlace}
    (ht : P.underlying t = some (.array n e)) (he : P.underlying e = some .string) (hce : P.cellsOf e = 1) (hct : P.cellsOf t = n)
    (h : DataW.trod enc P w base sp held fuel t cs = some (.agg (zs.map fun z => .lit (.string z)), p)) : cs = zs.map fun z => Value.string ⟨z.toArray⟩ := by
  cases fuel with
  | zero => simp [DataW.trod] at h
  | succ fuel =>
    simp only [DataW.trod, ht, hce, hct, Nat.mul_one] at h
    split at h
    · rename_i hl
      obtain ⟨xs, hm, hx⟩ := Option.map_eq_some_iff.1 h
      have hxs : xs.map (·.1) = zs.map fun z => (DataW.lit (.string z) : DataW H) := by
        have := congrArg Prod.fst hx
        simpa using this
      have hxl : xs.length = n := by simpa using Lib.mapM_length hm
      have hzl : zs.length = n := by
        have := congrArg List.length hxs
        simp at this
        omega
      apply List.ext_getElem?
      intro i
      by_cases hi : i < n
      · obtain ⟨b, hb, hf⟩ := Lib.mapM_at hm i i (by simp [hi])
        obtain ⟨s, hc, rfl, _⟩ := DataW.trod_string he hf
        have h1 : cs[i]? = some (.string s) := by
          have := congrArg (·[0]?) hc
          simpa [List.getElem?_take, List.getElem?_drop] using this
        have h2 : (xs.map (·.1))[i]? = some (DataW.lit (.string s.data.toList) : DataW H) := by simp [hb]
        rw [hxs] at h2
        simp only [List.getElem?_map, Option.map_eq_some_iff, DataW.lit.injEq, Lit.string.injEq] at h2
        obtain ⟨z', hz', hz2⟩ := h2
        simp [h1, hz', hz2]
      · rw [List.getElem?_eq_none (by omega), List.getElem?_eq_none (by simp; omega)]
    · cases h

theorem gWordsType : (Tryz.prog.globals[3]?).map (·.type) = some 161 := by kernel_rfl
theorem gPowType : (Tryz.prog.globals[4]?).map (·.type) = some 173 := by kernel_rfl
theorem gSynType : (Tryz.prog.globals[7]?).map (·.type) = some 143 := by kernel_rfl
theorem gRanType : (Tryz.prog.globals[8]?).map (·.type) = some 143 := by kernel_rfl
theorem cells18 : Tryz.prog.cellsOf 161 = 18 := by kernel_rfl
theorem cells9 : Tryz.prog.cellsOf 9 = 1 := by kernel_rfl
theorem cells20 : Tryz.prog.cellsOf 173 = 20 := by kernel_rfl
theorem cellsU : Tryz.prog.cellsOf 124 = 1 := by kernel_rfl

theorem uErr : ∃ ms, Tryz.prog.underlying 143 = some (.interface ms) := ⟨_, Tryz.underlying143⟩
/-- A listed error. -/
theorem err_of_head {W : World} {name nm : String} {d : DataW Unit} {rest : List (String × DataW Unit)} {g : Nat} (hg : Tryz.prog.globalNamed name = some g) (ht : (Tryz.prog.globals[g]?).map (·.type) = some 143)
    (h : laidMet Tryz.prog ((name, .iface nm d) :: rest) W) : ∃ tp p, W.var? Tryz.prog name = some #[.iface tp p] := by
  obtain ⟨ms, hi⟩ := uErr
  obtain ⟨ps, ⟨g', t', cs, fuel, p, q, hg', ht', hvar, hd, _, _⟩, _⟩ := h
  obtain rfl := Option.some.inj (hg.symm.trans hg')
  obtain rfl := Option.some.inj (ht.symm.trans ht')
  obtain ⟨l⟩ := cs
  obtain ⟨f1, u, v, e, _, _⟩ := iface_of_trod hi hd
  exact ⟨u, v, by rw [hvar]; simp at e; rw [e]⟩
end Go.Proofs.YthfjmcomhccbaaaGreatDoor

namespace Go.Proofs.YthfjmcomhccbaaaGreatDoor
open Go.Shelf
def Tryz.laysJoin_ren : Go.Shelf.Ren := ⟨fun | 156 => 60 | 165 => 79 | 166 => 80 | 169 => 81 | 240 => 98 | 241 => 99 | 276 => 123 | 277 => 124 | n => n, fun | 31 => 102 | 9 => 9 | 3 => 3 | 4 => 4 | 0 => 0 | 20 => 20 | 72 => 140 | 76 => 144 | 70 => 138 | 37 => 50 | 75 => 143 | 127 => 146 | 164 => 182 | 5 => 5 | 80 => 41 | n => n, fun | n => n⟩
theorem Tryz.laysJoin : Go.Proofs.Lays.n156 Tryz.prog Tryz.laysJoin_ren := {
  mixed := by kernel_rfl
  f156 := Tryz.func60.trans (congrArg some (by kernel_rfl))
  f165 := Tryz.func79.trans (congrArg some (by kernel_rfl))
  f166 := Tryz.func80.trans (congrArg some (by kernel_rfl))
  f169 := Tryz.func81.trans (congrArg some (by kernel_rfl))
  f240 := Tryz.func98.trans (congrArg some (by kernel_rfl))
  f241 := Tryz.func99.trans (congrArg some (by kernel_rfl))
  f276 := Tryz.func123.trans (congrArg some (by kernel_rfl))
  f277 := Tryz.func124.trans (congrArg some (by kernel_rfl))
  t0 := Tryz.underlying0
  a0 := Tryz.isAgg0
  z0 := Tryz.sizeOf0
  v0 := Tryz.zeroValue0
  t3 := Tryz.underlying3
  a3 := Tryz.isAgg3
  z3 := Tryz.sizeOf3
  v3 := Tryz.zeroValue3
  t4 := Tryz.underlying4
  a4 := Tryz.isAgg4
  z4 := Tryz.sizeOf4
  v4 := Tryz.zeroValue4
  t9 := Tryz.underlying9
  a9 := Tryz.isAgg9
  z9 := Tryz.sizeOf9
  v9 := Tryz.zeroValue9
  t20 := Tryz.underlying20
  a20 := Tryz.isAgg20
  z20 := Tryz.sizeOf20
  v20 := Tryz.zeroValue20
  t31 := Tryz.underlying102
  a31 := Tryz.isAgg102
  z31 := Tryz.sizeOf102
  v31 := Tryz.zeroValue102
  t37 := Tryz.underlying50
  a37 := Tryz.isAgg50
  z37 := Tryz.sizeOf50
  v37 := Tryz.zeroValue50
  t70 := Tryz.underlying138
  a70 := Tryz.isAgg138
  z70 := Tryz.sizeOf138
  v70 := Tryz.zeroValue138
  t72 := Tryz.underlying140
  a72 := Tryz.isAgg140
  z72 := Tryz.sizeOf140
  v72 := Tryz.zeroValue140
  t75 := Tryz.underlying143
  a75 := Tryz.isAgg143
  z75 := Tryz.sizeOf143
  v75 := Tryz.zeroValue143
  t76 := Tryz.underlying144
  a76 := Tryz.isAgg144
  z76 := Tryz.sizeOf144
  v76 := Tryz.zeroValue144
  t127 := Tryz.underlying146
  a127 := Tryz.isAgg146
  z127 := Tryz.sizeOf146
  v127 := Tryz.zeroValue146
  t164 := Tryz.underlying182
  a164 := Tryz.isAgg182
  z164 := Tryz.sizeOf182
  v164 := Tryz.zeroValue182 }
def Tryz.laysIndex_ren : Go.Shelf.Ren := ⟨fun | 143 => 39 | 219 => 56 | 217 => 72 | 225 => 73 | 224 => 74 | 267 => 75 | 266 => 91 | 314 => 92 | n => n, fun | 9 => 9 | 3 => 3 | 4 => 4 | 5 => 5 | 46 => 127 | 146 => 159 | 51 => 158 | n => n, fun | 1 => 2 | n => n⟩
theorem Tryz.laysIndex : Go.Proofs.Lays.n143 Tryz.prog Tryz.laysIndex_ren := {
  mixed := by kernel_rfl
  f143 := Tryz.func39.trans (congrArg some (by kernel_rfl))
  f217 := Tryz.func72.trans (congrArg some (by kernel_rfl))
  f219 := Tryz.func56.trans (congrArg some (by kernel_rfl))
  f224 := Tryz.func74.trans (congrArg some (by kernel_rfl))
  f225 := Tryz.func73.trans (congrArg some (by kernel_rfl))
  f266 := Tryz.func91.trans (congrArg some (by kernel_rfl))
  f267 := Tryz.func75.trans (congrArg some (by kernel_rfl))
  f314 := Tryz.func92.trans (congrArg some (by kernel_rfl))
  t3 := Tryz.underlying3
  a3 := Tryz.isAgg3
  z3 := Tryz.sizeOf3
  v3 := Tryz.zeroValue3
  t4 := Tryz.underlying4
  a4 := Tryz.isAgg4
  z4 := Tryz.sizeOf4
  v4 := Tryz.zeroValue4
  t5 := Tryz.underlying5
  a5 := Tryz.isAgg5
  z5 := Tryz.sizeOf5
  v5 := Tryz.zeroValue5
  t9 := Tryz.underlying9
  a9 := Tryz.isAgg9
  z9 := Tryz.sizeOf9
  v9 := Tryz.zeroValue9
  t46 := Tryz.underlying127
  a46 := Tryz.isAgg127
  z46 := Tryz.sizeOf127
  v46 := Tryz.zeroValue127
  t51 := Tryz.underlying158
  a51 := Tryz.isAgg158
  z51 := Tryz.sizeOf158
  v51 := Tryz.zeroValue158
  t146 := Tryz.underlying159
  a146 := Tryz.isAgg159
  z146 := Tryz.sizeOf159
  v146 := Tryz.zeroValue159
  g1 := by kernel_rfl }
end Go.Proofs.YthfjmcomhccbaaaGreatDoor

namespace Go.Proofs.YthfjmcomhccbaaaGreatDoor
open Go.RowKit
set_option maxRecDepth 60000

theorem wrapI (x : Int) (h : -4611686018427387904 ≤ x) (h' : x ≤ 4611686018427387905) : IntKind.i64.wrap x = x := by
  rw [IntKind.wrap_i64]; omega
theorem wrapB (x : Int) (h : 0 ≤ x) (h' : x ≤ 255) : IntKind.u8.wrap x = x := by
  rw [IntKind.wrap_u8]; omega

set_option maxHeartbeats 400000 in
theorem bindsAt_any (k n : Int) (w : World) :
    Calls Tryz.prog 51 #[.int .i64 k, .int .i64 n] w fun e w' => e = .returned (.int .i64 (Tmx.bindsAt k n)) ∧ w' = w := by
  go_enter Tryz.func51, Tryz.ntmps51
  go_wp2
  all_goals go_ret
  all_goals (refine ⟨congrArg (fun x => Ending.returned (.int .i64 x)) ?_, rfl⟩; simp_all [Tmx.bindsAt])
end Go.Proofs.YthfjmcomhccbaaaGreatDoor
