/-
  Lists of terms that lie in new blocks, and how such a list is filled term by term.
-/
import Derived.Test.YtcgpjihfligdbaaDoorMem
import Derived.Deep.OwnRows
namespace Tmx
open Go Go.Deep Go.RowKit

/-- The block B is a term's three cells. -/
def Box (w : World) (B : Nat) (a b c : Value) : Prop := w.heap[B]? = some (.cells #[a, b, c] 24 (0, 0))
theorem Box.lt {w : World} {B : Nat} {a b c : Value} (h : Box w B a b c) : B < w.heap.size := by
  obtain ⟨hlt, _⟩ := Array.getElem?_eq_some_iff.1 h
  exact hlt
theorem Box.facts {w : World} {B : Nat} {a b c : Value} (h : Box w B a b c) :
    w.cell? ⟨B, 0, none⟩ = some a ∧ w.cell? ⟨B, 1, none⟩ = some b ∧ w.cell? ⟨B, 2, none⟩ = some c ∧ w.frozen? ⟨B, 0, none⟩ = false ∧ w.frozen? ⟨B, 1, none⟩ = false ∧ w.frozen? ⟨B, 2, none⟩ = false := by
  unfold Box at h
  simp [World.cell?, World.frozen?, h]
theorem Box.new (w : World) (a b c : Value) : Box (w.alloc (.cells #[a, b, c] 24)) w.heap.size a b c := blk_alloc_new _ _
theorem Box.alloc {w : World} {B : Nat} {a b c : Value} (h : Box w B a b c) (o : Obj) : Box (w.alloc o) B a b c := by
  unfold Box
  rw [Below.heap_alloc _ _ _ h.lt]
  exact h
theorem Box.below {w w' : World} {B : Nat} {a b c : Value} (h : Box w B a b c) (hb : Below w.heap.size w w') : Box w' B a b c := by
  unfold Box
  rw [hb.block _ h.lt]
  exact h
theorem Box.setOther {w : World} {B : Nat} {a b c : Value} (h : Box w B a b c) {x : Addr} (hx : B ≠ x.block) (v : Value) : Box (w.setCell x v) B a b c := by
  unfold Box
  rw [Below.heap_setCell _ _ _ _ hx]
  exact h
theorem Box.set0 {w : World} {B : Nat} {a b c : Value} (h : Box w B a b c) (a' : Value) : Box (w.setCell ⟨B, 0, none⟩ a') B a' b c := by
  unfold Box at *
  simp [World.setCell, Array.getElem?_modify, h]
theorem Box.set2 {w : World} {B : Nat} {a b c : Value} (h : Box w B a b c) (c' : Value) : Box (w.setCell ⟨B, 2, none⟩ c') B a b c' := by
  unfold Box at *
  simp [World.setCell, Array.getElem?_modify, h]
/-- Three cells written anew. -/
theorem Box.set {w : World} {B : Nat} {a b c : Value} (h : Box w B a b c) (a' b' c' : Value) : Box (((w.setCell ⟨B, 0, none⟩ a').setCell ⟨B, 1, none⟩ b').setCell ⟨B, 2, none⟩ c') B a' b' c' := by
  unfold Box at *
  simp [World.setCell, Array.getElem?_modify, h]

/-- The terms f lie in w from the cell o of the block b on, all in blocks from lo on. -/
def RowF (lo : Nat) (w : World) (b o : Nat) : F → Prop
  | .nil => True
  | .node _ _ a l r =>
    lo ≤ b ∧ w.cell? ⟨b, o, none⟩ = some (.int .i64 a.1) ∧ w.cell? ⟨b, o + 1, none⟩ = some (.int .i64 a.2) ∧
    (∃ p b' o' cap, w.cell? ⟨b, o + 2, none⟩ = some (.slice p (len l) cap) ∧ (0 < len l → p = some ⟨b', o', none⟩) ∧ RowF lo w b' o' l) ∧
    RowF lo w b (o + 3) r
/-- The slice that begins at p holds the terms f in w, all in blocks from lo on. -/
def SlF (lo : Nat) (w : World) (p : Option Addr) (f : F) : Prop := ∃ b o, (0 < len f → p = some ⟨b, o, none⟩) ∧ RowF lo w b o f

theorem RowF.row {lo : Nat} {w : World} : ∀ (f : F) (b o : Nat), RowF lo w b o f → Row w b o f
  | .nil, _, _, _ => trivial
  | .node _ _ a l r, b, o, hr => by
    obtain ⟨_, h1, h2, ⟨p, b', o', cap, h3, h4, h6⟩, h5⟩ := hr
    exact ⟨h1, h2, ⟨p, b', o', cap, h3, h4, RowF.row l b' o' h6⟩, RowF.row r b (o + 3) h5⟩
theorem SlF.sl {lo : Nat} {w : World} {p : Option Addr} {f : F} (h : SlF lo w p f) : Sl w p f :=
  let ⟨b, o, h1, h2⟩ := h
  ⟨b, o, h1, h2.row⟩
theorem SlF.nil (lo : Nat) (w : World) (p : Option Addr) : SlF lo w p .nil := ⟨0, 0, fun h => by simp [len] at h, trivial⟩

/-- What a row holds hangs on its own blocks alone. -/
theorem RowF.carry {lo : Nat} {w w' : World} (h : ∀ b o v, lo ≤ b → w.cell? ⟨b, o, none⟩ = some v → w'.cell? ⟨b, o, none⟩ = some v) : ∀ (f : F) (b o : Nat), RowF lo w b o f → RowF lo w' b o f
  | .nil, _, _, _ => trivial
  | .node _ _ a l r, b, o, hr => by
    obtain ⟨h0, h1, h2, ⟨p, b', o', cap, h3, h4, h6⟩, h5⟩ := hr
    exact ⟨h0, h _ _ _ h0 h1, h _ _ _ h0 h2, ⟨p, b', o', cap, h _ _ _ h0 h3, h4, RowF.carry h l b' o' h6⟩, RowF.carry h r b (o + 3) h5⟩
theorem SlF.carry {lo : Nat} {w w' : World} (h : ∀ b o v, lo ≤ b → w.cell? ⟨b, o, none⟩ = some v → w'.cell? ⟨b, o, none⟩ = some v) {p : Option Addr} {f : F} (hs : SlF lo w p f) : SlF lo w' p f :=
  let ⟨b, o, h1, h2⟩ := hs
  ⟨b, o, h1, h2.carry h⟩
theorem below_some {w w' : World} (h : Below w.heap.size w w') (b o : Nat) (v : Value) (hc : w.cell? ⟨b, o, none⟩ = some v) : w'.cell? ⟨b, o, none⟩ = some v := by
  rw [h.cell (p := ⟨b, o, none⟩) (World.block_lt_of_cell? w ⟨b, o, none⟩ hc)]
  exact hc
theorem SlF.below {lo : Nat} {w w' : World} (h : Below w.heap.size w w') {p : Option Addr} {f : F} (hs : SlF lo w p f) : SlF lo w' p f :=
  hs.carry fun b o v _ => below_some h b o v
theorem RowF.mono {lo lo' : Nat} {w : World} (hl : lo' ≤ lo) : ∀ (f : F) (b o : Nat), RowF lo w b o f → RowF lo' w b o f
  | .nil, _, _, _ => trivial
  | .node _ _ a l r, b, o, hr => by
    obtain ⟨h0, h1, h2, ⟨p, b', o', cap, h3, h4, h6⟩, h5⟩ := hr
    exact ⟨by omega, h1, h2, ⟨p, b', o', cap, h3, h4, RowF.mono hl l b' o' h6⟩, RowF.mono hl r b (o + 3) h5⟩
theorem SlF.mono {lo lo' : Nat} {w : World} (hl : lo' ≤ lo) {p : Option Addr} {f : F} (hs : SlF lo w p f) : SlF lo' w p f :=
  let ⟨b, o, h1, h2⟩ := hs
  ⟨b, o, h1, h2.mono hl⟩

theorem SlF.setCell {lo : Nat} {w : World} {p : Option Addr} {f : F} (hs : SlF lo w p f) {x : Addr} (hx : x.block < lo) (v : Value) : SlF lo (w.setCell x v) p f :=
  hs.carry fun b o u hb hc => by rw [World.cell?_of_block (w := w) (Below.heap_setCell _ _ _ _ (by show b ≠ x.block; omega))]; exact hc

/-- The first j of the terms f lie in the block B from the cell o on; their own arguments behind that block. -/
def RowP (B : Nat) (w : World) : Nat → Nat → F → Prop
  | 0, _, _ => True
  | _ + 1, _, .nil => True
  | j + 1, o, .node _ _ a l r =>
    w.cell? ⟨B, o, none⟩ = some (.int .i64 a.1) ∧ w.cell? ⟨B, o + 1, none⟩ = some (.int .i64 a.2) ∧
    (∃ p cap, w.cell? ⟨B, o + 2, none⟩ = some (.slice p (len l) cap) ∧ SlF (B + 1) w p l) ∧ RowP B w j (o + 3) r

theorem RowP.carry {B : Nat} {w w' : World} : ∀ (j : Nat) (f : F) (o : Nat), (∀ i v, o ≤ i → i < o + j * 3 → w.cell? ⟨B, i, none⟩ = some v → w'.cell? ⟨B, i, none⟩ = some v) →
    (∀ b o v, B + 1 ≤ b → w.cell? ⟨b, o, none⟩ = some v → w'.cell? ⟨b, o, none⟩ = some v) → RowP B w j o f → RowP B w' j o f
  | 0, _, _, _, _, _ => trivial
  | _ + 1, .nil, _, _, _, _ => trivial
  | j + 1, .node _ _ a l r, o, h, h', hr => by
    obtain ⟨h1, h2, ⟨p, cap, h3, h4⟩, h5⟩ := hr
    exact ⟨h _ _ (by omega) (by omega) h1, h _ _ (by omega) (by omega) h2, ⟨p, cap, h _ _ (by omega) (by omega) h3, h4.carry h'⟩, RowP.carry j r (o + 3) (fun i v hi hi' => h i v (by omega) (by omega)) h' h5⟩

/-- One term more. -/
theorem RowP.snoc {B : Nat} {w : World} {p : Option Addr} {cap : Nat} : ∀ (j : Nat) (f : F) (o : Nat) {x y : Nat} {a : Int × Int} {l r : F}, drop j f = .node x y a l r → RowP B w j o f →
    w.cell? ⟨B, o + j * 3, none⟩ = some (.int .i64 a.1) → w.cell? ⟨B, o + j * 3 + 1, none⟩ = some (.int .i64 a.2) → w.cell? ⟨B, o + j * 3 + 2, none⟩ = some (.slice p (len l) cap) → SlF (B + 1) w p l → RowP B w (j + 1) o f
  | 0, .nil, _, _, _, _, _, _, e, _, _, _, _, _ => by simp [drop] at e
  | 0, .node _ _ _ _ _, o, _, _, _, _, _, e, _, h1, h2, h3, h4 => by
    simp only [drop, BT.node.injEq] at e
    obtain ⟨_, _, rfl, rfl, rfl⟩ := e
    exact ⟨by simpa using h1, by simpa using h2, ⟨p, cap, by simpa using h3, h4⟩, trivial⟩
  | j + 1, .nil, _, _, _, _, _, _, e, _, _, _, _, _ => by simp [drop] at e
  | j + 1, .node _ _ _ _ r', o, _, _, _, _, _, e, hr, h1, h2, h3, h4 => by
    obtain ⟨g1, g2, g3, g5⟩ := hr
    rw [drop] at e
    have e3 : o + (j + 1) * 3 = o + 3 + j * 3 := by omega
    rw [e3] at h1 h2 h3
    exact ⟨g1, g2, g3, RowP.snoc j r' (o + 3) e g5 h1 h2 h3 h4⟩

/-- All of them. -/
theorem RowP.all {B lo : Nat} {w : World} (hlo : lo ≤ B) : ∀ (f : F) (o : Nat), RowP B w (len f) o f → RowF lo w B o f
  | .nil, _, _ => trivial
  | .node _ _ a l r, o, hr => by
    rw [len] at hr
    obtain ⟨h1, h2, ⟨p, cap, h3, b', o', h4, h6⟩, h5⟩ := hr
    exact ⟨hlo, h1, h2, ⟨p, b', o', cap, h3, h4, h6.mono (by omega)⟩, RowP.all hlo r (o + 3) h5⟩

/-- A term's three cells stored into a row. -/
theorem store3 {w : World} {B m j : Nat} {G : Nat → Value} (hG : w.rowIs B 24 (m * 3) G) (hj : j < m) (a b c : Value) :
    ∃ w2, ((w.setCell ⟨B, j * 3, none⟩ a).setCell ⟨B, j * 3 + 1, none⟩ b).setCell ⟨B, j * 3 + 2, none⟩ c = w2 ∧ (∃ G', w2.rowIs B 24 (m * 3) G') ∧
      w2.cell? ⟨B, j * 3, none⟩ = some a ∧ w2.cell? ⟨B, j * 3 + 1, none⟩ = some b ∧ w2.cell? ⟨B, j * 3 + 2, none⟩ = some c ∧
      (∀ i v, i < j * 3 → w.cell? ⟨B, i, none⟩ = some v → w2.cell? ⟨B, i, none⟩ = some v) ∧
      (∀ x, x ≠ B → w2.heap[x]? = w.heap[x]?) ∧ (∀ lo, lo ≤ B → Below lo w w2) := by
  have h3 := ((hG.set (j * 3) a).set (j * 3 + 1) b).set (j * 3 + 2) c
  refine ⟨_, rfl, ⟨_, h3⟩, ?_, ?_, ?_, fun i v hi hv => ?_, fun x hx => ?_, fun lo hlo => ?_⟩
  · rw [h3.cell (by omega)]; simp
  · rw [h3.cell (by omega)]; simp
  · rw [h3.cell (by omega)]; simp
  · rw [hG.cell (by omega)] at hv
    rw [h3.cell (by omega), if_neg (by omega), if_neg (by omega), if_neg (by omega)]
    exact hv
  · rw [Below.heap_setCell _ _ _ _ hx, Below.heap_setCell _ _ _ _ hx, Below.heap_setCell _ _ _ _ hx]
  · exact (((Below.refl _ _).setCell hlo _).setCell hlo _).setCell hlo _
theorem Box.of_block {w w' : World} {B : Nat} {a b c : Value} (h : Box w B a b c) (e : w'.heap[B]? = w.heap[B]?) : Box w' B a b c := by
  unfold Box
  rw [e]
  exact h
end Tmx
