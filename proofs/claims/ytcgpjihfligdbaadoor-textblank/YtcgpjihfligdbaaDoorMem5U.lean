/-
  A list of terms that is appended to.
-/
import Derived.Test.YtcgpjihfligdbaaDoorPlain7U
import Derived.Deep.AppendLies
namespace Tmx
open Go Go.Deep Go.RowKit

/-- The terms f lie in w from the cell o of the block b on, all in blocks of which Q holds. -/
def RowQ (Q : Nat → Prop) (w : World) (b o : Nat) : F → Prop
  | .nil => True
  | .node _ _ a l r =>
    Q b ∧ w.cell? ⟨b, o, none⟩ = some (.int .i64 a.1) ∧ w.cell? ⟨b, o + 1, none⟩ = some (.int .i64 a.2) ∧
    (∃ p b' o' cap, w.cell? ⟨b, o + 2, none⟩ = some (.slice p (len l) cap) ∧ (0 < len l → p = some ⟨b', o', none⟩) ∧ RowQ Q w b' o' l) ∧
    RowQ Q w b (o + 3) r
def SlQ (Q : Nat → Prop) (w : World) (p : Option Addr) (f : F) : Prop := ∃ b o, (0 < len f → p = some ⟨b, o, none⟩) ∧ RowQ Q w b o f

/-- From one world, and one property, to others. -/
theorem RowQ.along {Q Q' : Nat → Prop} {w w' : World} (h : ∀ b o v, Q b → w.cell? ⟨b, o, none⟩ = some v → Q' b ∧ w'.cell? ⟨b, o, none⟩ = some v) : ∀ (f : F) (b o : Nat), RowQ Q w b o f → RowQ Q' w' b o f
  | .nil, _, _, _ => trivial
  | .node _ _ a l r, b, o, hr => by
    obtain ⟨h0, h1, h2, ⟨p, b', o', cap, h3, h4, h6⟩, h5⟩ := hr
    exact ⟨(h _ _ _ h0 h1).1, (h _ _ _ h0 h1).2, (h _ _ _ h0 h2).2, ⟨p, b', o', cap, (h _ _ _ h0 h3).2, h4, RowQ.along h l b' o' h6⟩, RowQ.along h r b (o + 3) h5⟩
theorem SlQ.along {Q Q' : Nat → Prop} {w w' : World} (h : ∀ b o v, Q b → w.cell? ⟨b, o, none⟩ = some v → Q' b ∧ w'.cell? ⟨b, o, none⟩ = some v) {p : Option Addr} {f : F} (hs : SlQ Q w p f) : SlQ Q' w' p f :=
  let ⟨b, o, h1, h2⟩ := hs
  ⟨b, o, h1, h2.along h⟩
theorem RowF.toQ {lo : Nat} {w : World} : ∀ (f : F) (b o : Nat), RowF lo w b o f → RowQ (fun x => lo ≤ x) w b o f
  | .nil, _, _, _ => trivial
  | .node _ _ a l r, b, o, hr => by
    obtain ⟨h0, h1, h2, ⟨p, b', o', cap, h3, h4, h6⟩, h5⟩ := hr
    exact ⟨h0, h1, h2, ⟨p, b', o', cap, h3, h4, RowF.toQ l b' o' h6⟩, RowF.toQ r b (o + 3) h5⟩
theorem RowQ.toF {lo : Nat} {w : World} : ∀ (f : F) (b o : Nat), RowQ (fun x => lo ≤ x) w b o f → RowF lo w b o f
  | .nil, _, _, _ => trivial
  | .node _ _ a l r, b, o, hr => by
    obtain ⟨h0, h1, h2, ⟨p, b', o', cap, h3, h4, h6⟩, h5⟩ := hr
    exact ⟨h0, h1, h2, ⟨p, b', o', cap, h3, h4, RowQ.toF l b' o' h6⟩, RowQ.toF r b (o + 3) h5⟩
theorem SlF.toQ {lo : Nat} {w : World} {p : Option Addr} {f : F} (hs : SlF lo w p f) : SlQ (fun x => lo ≤ x) w p f :=
  let ⟨b, o, h1, h2⟩ := hs
  ⟨b, o, h1, h2.toQ⟩

/-- The cells xs are those of the terms f, one behind the other. -/
def Cells (Q : Nat → Prop) (w : World) : F → List Value → Prop
  | .nil, xs => xs = []
  | .node _ _ a l r, xs => ∃ p cap ys, xs = .int .i64 a.1 :: .int .i64 a.2 :: .slice p (len l) cap :: ys ∧ SlQ Q w p l ∧ Cells Q w r ys
theorem Cells.along {Q Q' : Nat → Prop} {w w' : World} (h : ∀ b o v, Q b → w.cell? ⟨b, o, none⟩ = some v → Q' b ∧ w'.cell? ⟨b, o, none⟩ = some v) : ∀ (f : F) (xs : List Value), Cells Q w f xs → Cells Q' w' f xs
  | .nil, _, hc => hc
  | .node _ _ a l r, xs, hc => by
    obtain ⟨p, cap, ys, rfl, h1, h2⟩ := hc
    exact ⟨p, cap, ys, rfl, h1.along h, Cells.along h r ys h2⟩
theorem Cells.snoc {Q : Nat → Prop} {w : World} {k n : Int} {p : Option Addr} {cap : Nat} {L : F} (hL : SlQ Q w p L) : ∀ (f : F) (xs : List Value), Cells Q w f xs → Cells Q w (snoc f (k, n, L)) (xs ++ [.int .i64 k, .int .i64 n, .slice p (len L) cap])
  | .nil, xs, hc => by
    simp only [Cells] at hc
    subst hc
    exact ⟨p, cap, [], rfl, hL, rfl⟩
  | .node _ _ a l r, xs, hc => by
    obtain ⟨p', cap', ys, rfl, h1, h2⟩ := hc
    exact ⟨p', cap', ys ++ [.int .i64 k, .int .i64 n, .slice p (len L) cap], by simp, h1, Cells.snoc hL r ys h2⟩
theorem Cells.length {Q : Nat → Prop} {w : World} : ∀ (f : F) (xs : List Value), Cells Q w f xs → xs.length = len f * 3
  | .nil, xs, hc => by simp only [Cells] at hc; subst hc; simp [len]
  | .node _ _ a l r, xs, hc => by
    obtain ⟨p', cap', ys, rfl, h1, h2⟩ := hc
    have := Cells.length r ys h2
    simp [len]
    omega
/-- Cells that lie in a block are a row. -/
theorem Cells.row {Q : Nat → Prop} {w : World} {g : Nat} (hg : Q g) : ∀ (f : F) (xs : List Value) (o : Nat), Cells Q w f xs → (∀ i, i < xs.length → w.cell? ⟨g, o + i, none⟩ = xs[i]?) → RowQ Q w g o f
  | .nil, _, _, _, _ => trivial
  | .node _ _ a l r, xs, o, hc, hx => by
    obtain ⟨p, cap, ys, rfl, ⟨b', o', h1, h2⟩, h3⟩ := hc
    refine ⟨hg, by simpa using hx 0 (by simp), by simpa using hx 1 (by simp), ⟨p, b', o', cap, by simpa using hx 2 (by simp), h1, h2⟩, Cells.row hg r ys (o + 3) h3 fun i hi => ?_⟩
    have := hx (i + 3) (by simp; omega)
    rw [show o + 3 + i = o + (i + 3) by omega, this]
    simp

/-- The value v holds the terms A, in a row of one's own from the block lo on; what they hold lies elsewhere, from lo on. -/
def ArgsIn (lo : Nat) (w : World) (v : Value) (A : F) : Prop := ∃ xs, w.ownsRow lo 24 3 v (len A) xs ∧ Cells (fun b => lo ≤ b ∧ v.ownBlock ≠ some b) w A xs
theorem ArgsIn.nil (lo : Nat) (w : World) : ArgsIn lo w (.slice none 0 0) .nil := ⟨[], World.ownsRow_nil w lo 24 3, rfl⟩

/-- The same in a later world in which blocks from lo on are as they were. -/
theorem ArgsIn.along {lo : Nat} {w w' : World} {v : Value} {A : F} (h : ArgsIn lo w v A) (hb : ∀ b, lo ≤ b → b < w.heap.size → w'.heap[b]? = w.heap[b]?) : ArgsIn lo w' v A := by
  obtain ⟨xs, h1, h2⟩ := h
  refine ⟨xs, ?_, h2.along fun b o u hq hc => ⟨hq, ?_⟩⟩
  · obtain ⟨g1, g2⟩ := h1
    refine ⟨g1, ?_⟩
    rcases g2 with g2 | ⟨g, cap, cur, e, hg, hh, hr⟩
    · exact .inl g2
    · exact .inr ⟨g, cap, cur, e, hg, by rw [hb g hg (by obtain ⟨hlt, _⟩ := Array.getElem?_eq_some_iff.1 hh; exact hlt)]; exact hh, hr⟩
  · rw [World.cell?_of_block (w := w) (hb b hq.1 (World.block_lt_of_cell? w ⟨b, o, none⟩ hc))]
    exact hc
/-- What it looks like. -/
theorem ArgsIn.form {lo : Nat} {w : World} {v : Value} {A : F} (h : ArgsIn lo w v A) : ∃ p cap, v = .slice p (len A) cap := by
  obtain ⟨xs, ⟨_, h2⟩, _⟩ := h
  rcases h2 with ⟨rfl, h0⟩ | ⟨g, cap, cur, rfl, _⟩
  · exact ⟨none, 0, by rw [h0]⟩
  · exact ⟨_, _, rfl⟩
theorem ArgsIn.slF {lo : Nat} {w : World} {p : Option Addr} {n cap : Nat} {A : F} (h : ArgsIn lo w (.slice p n cap) A) : SlF lo w p A := by
  obtain ⟨xs, h1, h2⟩ := h
  obtain ⟨g1, g2⟩ := h1
  rcases g2 with ⟨e, h0⟩ | ⟨g, cap', cur, e, hg, hh, hn, hm, hs, ht⟩
  · rw [size_nil_of_len A h0]
    exact SlF.nil _ _ _
  · have he : p = some ⟨g, 0, none⟩ := by simpa using (Value.slice.inj e).1
    subst he
    refine ⟨g, 0, fun _ => rfl, RowQ.toF _ _ _ ?_⟩
    have h2' : Cells (fun b => lo ≤ b) w A xs := h2.along fun b o u hq hc => ⟨hq.1, hc⟩
    refine Cells.row hg A xs 0 h2' fun i hi => ?_
    rw [Nat.zero_add, cell_of_row w g i cur 24 (0, 0) hh, ← ht, List.getElem?_take, if_pos (by rw [← g1]; exact hi)]
    simp
end Tmx
