/-
  Arguments that can be read as a declaration, and as bytes.
-/
import Derived.Test.YtcgpjihfligdbaaW26
import Derived.Test.YtcgpjihfligdbaaMemB
namespace Go.Proofs.Ytcgpjihfligdbaa
open Go.RowKit Tmx Go.ChangeShapes Go.WideShapes Go.Joins
set_option maxRecDepth 60000

theorem cells38 : Try.prog.cellsOf 38 = 7 := by kernel_rfl
theorem cells9 : Try.prog.cellsOf 9 = 1 := by kernel_rfl
theorem cells5 : Try.prog.cellsOf 5 = 1 := by kernel_rfl
theorem list7 {l : List Value} (h : l.length = 7) : ∃ a b c d e f g, l = [a, b, c, d, e, f, g] := by
  match l, h with
  | [a, b, c, d, e, f, g], _ => exact ⟨a, b, c, d, e, f, g, rfl⟩
section
variable {H : Type} {enc : TypeId × Value → H} {w : World} {base : Nat} {sp : Nat → Bool} {hd : Bool}

/-- Three cells that can be read as a term. -/
theorem read_cells {fuel : Nat} {c0 c1 c2 : Value} {x : DataW H × List MemPlace} (h : DataW.trod enc Try.prog w base sp hd fuel 24 [c0, c1, c2] = some x) :
    ∃ (k n : Int) (q : Option Addr) (cap : Nat) (f : F), c0 = .int .i64 k ∧ c1 = .int .i64 n ∧ c2 = .slice q (len f) cap ∧ Sl w q f := by
  obtain ⟨xs, m', _, _, _, hxl, hf⟩ := DataW.trod_struct Try.underlying24 h
  have hx3 : xs.length = 3 := by simpa using hxl
  have f0 : DataW.trod enc Try.prog w base sp hd m' 3 (([c0, c1, c2].drop 0).take (Try.prog.cellsOf 3)) = xs[0]? := hf 0 _ rfl
  have f1 : DataW.trod enc Try.prog w base sp hd m' 3 (([c0, c1, c2].drop 1).take (Try.prog.cellsOf 3)) = xs[1]? := hf 1 _ rfl
  have f2 : DataW.trod enc Try.prog w base sp hd m' 22 (([c0, c1, c2].drop 2).take (Try.prog.cellsOf 22)) = xs[2]? := hf 2 _ rfl
  rw [List.getElem?_eq_getElem (by omega), cells3] at f0 f1
  rw [List.getElem?_eq_getElem (by omega), cells22] at f2
  simp only [List.drop_zero, List.drop_succ_cons, List.take_succ_cons, List.take_zero] at f0 f1 f2
  obtain ⟨k, e0, _, _⟩ := DataW.trod_int Try.underlying3 f0
  obtain ⟨j, e1, _, _⟩ := DataW.trod_int Try.underlying3 f1
  obtain ⟨q, cp, f, e2, hs⟩ := read_slice _ _ _ f2
  exact ⟨k, j, q, cp, f, by simpa using e0, by simpa using e1, e2, hs⟩

/-- Whatever can be read as a declaration. -/
theorem read_decl {r : Reach} {b0 : Nat} {v : Value} {d : DataW H} {p : List MemPlace} (hv : Value.okWide Try.prog w r b0 38 v) (h : DataW.Trod enc Try.prog w base sp hd 38 v d p) :
    ∃ (nm : List UInt8) (k n : Int) (q : Option Addr) (cap : Nat) (f : F) (k' n' : Int) (q' : Option Addr) (cap' : Nat) (f' : F),
      v = .agg #[.string ⟨nm.toArray⟩, .int .i64 k, .int .i64 n, .slice q (len f) cap, .int .i64 k', .int .i64 n', .slice q' (len f') cap'] ∧ Sl w q f ∧ Sl w q' f' := by
  obtain ⟨cs, rfl, hsz⟩ := okWide_struct Try.underlying38 hv
  obtain ⟨fuel, hf0⟩ := h
  obtain ⟨xs, m', _, _, _, hxl, hf⟩ := DataW.trod_struct Try.underlying38 hf0
  have hx3 : xs.length = 3 := by simpa using hxl
  obtain ⟨cl⟩ := cs
  obtain ⟨a, b, c, dd, e, f, g, rfl⟩ := list7 (l := cl) (by simpa [cells38] using hsz)
  have f0 : DataW.trod enc Try.prog w base sp hd m' 9 (([a, b, c, dd, e, f, g].drop 0).take (Try.prog.cellsOf 9)) = xs[0]? := hf 0 _ rfl
  have f1 : DataW.trod enc Try.prog w base sp hd m' 24 (([a, b, c, dd, e, f, g].drop 1).take (Try.prog.cellsOf 24)) = xs[1]? := hf 1 _ rfl
  have f2 : DataW.trod enc Try.prog w base sp hd m' 24 (([a, b, c, dd, e, f, g].drop 4).take (Try.prog.cellsOf 24)) = xs[2]? := hf 2 _ rfl
  rw [List.getElem?_eq_getElem (by omega), cells9] at f0
  rw [List.getElem?_eq_getElem (by omega), cells24] at f1 f2
  simp only [List.drop_zero, List.drop_succ_cons, List.take_succ_cons, List.take_zero] at f0 f1 f2
  obtain ⟨s, e0, _⟩ := DataW.trod_string Try.underlying9 f0
  obtain ⟨k, n, q, cap, fa, rfl, rfl, rfl, hs⟩ := read_cells f1
  obtain ⟨k', n', q', cap', fb, rfl, rfl, rfl, hs'⟩ := read_cells f2
  have e0' : a = .string s := by simpa using e0
  subst e0'
  exact ⟨s.data.toList, k, n, q, cap, fa, k', n', q', cap', fb, by simp, hs, hs'⟩

/-- Whatever can be read as bytes. -/
theorem read_bytes {r : Reach} {b0 : Nat} {v : Value} {d : DataW H} {p : List MemPlace} (hv : Value.okWide Try.prog w r b0 39 v) (h : DataW.Trod enc Try.prog w base sp hd 39 v d p) :
    ∃ (q : Option Addr) (cap : Nat) (l : List UInt8), v = .slice q l.length cap ∧ Bs w q l ∧ l.length ≤ cap ∧ (q = none → cap = 0) ∧ (l = [] ∨ ∃ elems rest, d = .slice elems rest ∧ elems.length = l.length) := by
  obtain ⟨fuel, hf0⟩ := h
  obtain ⟨q, n, cap, rfl⟩ := okWide_slice Try.underlying39 hv
  rcases DataW.trod_slice Try.underlying39 hf0 with ⟨hc, _⟩ | ⟨a, n', cap', elems, rest, m, _, hc, hx, _, hl, _, hlen, hel, _, _⟩
  · obtain ⟨rfl, rfl, rfl⟩ : q = none ∧ n = 0 ∧ cap = 0 := by simpa [Value.cells] using hc
    exact ⟨none, 0, [], rfl, Bs.nil _ _, Nat.le_refl _, fun _ => rfl, .inl rfl⟩
  · obtain ⟨rfl, rfl, rfl⟩ : q = some a ∧ n = n' ∧ cap = cap' := by simpa [Value.cells] using hc
    rw [cells5] at hel
    have one : ∀ i, i < n → ∃ c : UInt8, w.cell? (a.add i) = some (bv c) := by
      intro i hi
      have he := hel i hi
      rw [List.getElem?_eq_getElem (by omega), Nat.mul_one] at he
      obtain ⟨cs, hcs, ht⟩ := Option.bind_eq_some_iff.1 he
      obtain ⟨_, hcl, hcell⟩ := World.cells?_some hcs
      obtain ⟨x, e0, _, hw⟩ := DataW.trod_int Try.underlying5 ht
      have g0 := hcell 0 (by omega)
      have ha0 : (a.add i).add 0 = a.add i := by unfold Addr.add; split <;> simp_all
      rw [ha0, e0] at g0
      have hx : 0 ≤ x ∧ x ≤ 255 := by simpa [Lit.wf, IntKind.min, IntKind.max, IntKind.signed, IntKind.bits] using hw
      refine ⟨b8 x, ?_⟩
      rw [g0]
      simp [bv, b8_of x hx.1 (by omega)]
    rcases Nat.eq_zero_or_pos n with hn | hn
    · subst hn
      exact ⟨some a, cap, [], rfl, Bs.nil _ _, by simp, fun e => by simp at e, .inl rfl⟩
    · obtain ⟨c0, h0⟩ := one 0 hn
      obtain ⟨b, o, spot⟩ := a
      have hspot : spot = none := by simpa [Addr.add] using World.cell?_spot h0
      subst hspot
      have hadd : ∀ i, (⟨b, o, none⟩ : Addr).add i = ⟨b, o + i, none⟩ := fun i => by unfold Addr.add; split <;> simp_all
      have build : ∀ c i, i + c = n → ∃ l : List UInt8, l.length = c ∧ Bat w b (o + i) l := by
        intro c
        induction c with
        | zero => intro i _; exact ⟨[], rfl, fun j hj => by simp at hj⟩
        | succ c ihc =>
          intro i hi
          obtain ⟨l, hl1, hl2⟩ := ihc (i + 1) (by omega)
          obtain ⟨x, hx⟩ := one i (by omega)
          rw [hadd] at hx
          refine ⟨x :: l, by simp [hl1], fun j hj => ?_⟩
          cases j with
          | zero => simpa using hx
          | succ j =>
            have := hl2 j (by simp at hj; omega)
            rw [show o + i + (j + 1) = o + (i + 1) + j by omega, this]
            simp
      obtain ⟨l, hl1, hl2⟩ := build n 0 (by omega)
      have hd' : d = .slice (elems.map (·.1)) (rest.map (·.1)) := congrArg Prod.fst hx
      exact ⟨some ⟨b, o, none⟩, cap, l, by rw [hl1], Bs.some (by simpa using hl2), by omega, fun e => by simp at e, .inr ⟨_, _, hd', by simp [hlen, hl1]⟩⟩
end
end Go.Proofs.Ytcgpjihfligdbaa
