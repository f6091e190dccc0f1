/-
  An argument that can be read as a term is a list of terms in memory.
-/
import Derived.Test.YtcgpjihfligdbaaDoorProg
import Derived.Test.YtcgpjihfligdbaaDoorMem
import Derived.WalkKit
import Derived.ProofKit
import Derived.Lib.SmallJoins
namespace Go.Proofs.YtcgpjihfligdbaaDoor
open Go.RowKit Tmx Go.ChangeShapes Go.WideShapes Go.Joins

theorem list3 {l : List Value} (h : l.length = 3) : ∃ a b c, l = [a, b, c] := by
  match l, h with
  | [a, b, c], _ => exact ⟨a, b, c, rfl⟩
theorem cells24 : Tryd.prog.cellsOf 24 = 3 := by kernel_rfl
theorem cells22 : Tryd.prog.cellsOf 22 = 1 := by kernel_rfl
theorem cells3 : Tryd.prog.cellsOf 3 = 1 := by kernel_rfl
section
variable {H : Type} {enc : TypeId × Value → H} {w : World} {base : Nat} {sp : Nat → Bool} {hd : Bool}

/-- Whatever can be read as a slice of terms holds a list of terms. -/
theorem read_slice : ∀ (fuel : Nat) (v : Value) (x : DataW H × List MemPlace), DataW.trod enc Tryd.prog w base sp hd fuel 22 [v] = some x → ∃ q cap f, v = .slice q (len f) cap ∧ Sl w q f := by
  intro fuel
  induction fuel using Nat.strongRecOn with
  | _ fuel ih =>
    intro v x h
    rcases DataW.trod_slice Tryd.underlying22 h with ⟨hc, _⟩ | ⟨a, n, cap, elems, rest, m, hm, hc, _, hb, hl, _, hlen, hel, _, _⟩
    · have : v = .slice none 0 0 := by simpa using hc
      exact ⟨none, 0, .nil, this, Sl.nil _ _⟩
    · have hv : v = .slice (some a) n cap := by simpa using hc
      rw [cells24] at hel
      have one : ∀ i, i < n → ∃ (k j : Int) (q : Option Addr) (cp : Nat) (f : F), w.cell? (a.add (i * 3)) = some (.int .i64 k) ∧ w.cell? ((a.add (i * 3)).add 1) = some (.int .i64 j) ∧ w.cell? ((a.add (i * 3)).add 2) = some (.slice q (len f) cp) ∧ Sl w q f := by
        intro i hi
        have he := hel i hi
        rw [List.getElem?_eq_getElem (by omega)] at he
        obtain ⟨cs, hcs, ht⟩ := Option.bind_eq_some_iff.1 he
        obtain ⟨_, hcl, hcell⟩ := World.cells?_some hcs
        obtain ⟨xs, m', hm', _, _, hxl, hf⟩ := DataW.trod_struct Tryd.underlying24 ht
        have hx3 : xs.length = 3 := by simpa using hxl
        have f0 : DataW.trod enc Tryd.prog w base sp hd m' 3 ((cs.drop 0).take (Tryd.prog.cellsOf 3)) = xs[0]? := hf 0 _ rfl
        have f1 : DataW.trod enc Tryd.prog w base sp hd m' 3 ((cs.drop 1).take (Tryd.prog.cellsOf 3)) = xs[1]? := hf 1 _ rfl
        have f2 : DataW.trod enc Tryd.prog w base sp hd m' 22 ((cs.drop 2).take (Tryd.prog.cellsOf 22)) = xs[2]? := hf 2 _ rfl
        rw [List.getElem?_eq_getElem (by omega), cells3] at f0 f1
        rw [List.getElem?_eq_getElem (by omega), cells22] at f2
        obtain ⟨c0, c1, c2, rfl⟩ := list3 hcl
        · simp only [List.drop_zero, List.drop_succ_cons, List.take_succ_cons, List.take_zero] at f0 f1 f2
          obtain ⟨k, e0, _, _⟩ := DataW.trod_int Tryd.underlying3 f0
          obtain ⟨j, e1, _, _⟩ := DataW.trod_int Tryd.underlying3 f1
          obtain ⟨q, cp, f, e2, hs⟩ := ih m' (by omega) _ _ f2
          have e0' : c0 = .int .i64 k := by simpa using e0
          have e1' : c1 = .int .i64 j := by simpa using e1
          subst e0'
          subst e1'
          subst e2
          have g0 := hcell 0 (by omega)
          have g1 := hcell 1 (by omega)
          have g2 := hcell 2 (by omega)
          refine ⟨k, j, q, cp, f, ?_, by simpa using g1, by simpa using g2, hs⟩
          have ha0 : (a.add (i * 3)).add 0 = a.add (i * 3) := by unfold Addr.add; split <;> simp_all
          rw [ha0] at g0
          simpa using g0
      rcases Nat.eq_zero_or_pos n with hn | hn
      · subst hn
        exact ⟨some a, cap, .nil, hv, Sl.nil _ _⟩
      · obtain ⟨k0, _, _, _, _, h0, _, _, _⟩ := one 0 hn
        obtain ⟨b, o, spot⟩ := a
        have hspot : spot = none := by simpa [Addr.add] using World.cell?_spot h0
        subst hspot
        have hadd : ∀ i, (⟨b, o, none⟩ : Addr).add i = ⟨b, o + i, none⟩ := fun i => by unfold Addr.add; split <;> simp_all
        have hadd2 : ∀ i d, ((⟨b, o, none⟩ : Addr).add i).add d = ⟨b, o + i + d, none⟩ := fun i d => by rw [hadd]; unfold Addr.add; split <;> simp_all
        have build : ∀ c i, i + c = n → ∃ f : F, len f = c ∧ Row w b (o + i * 3) f := by
          intro c
          induction c with
          | zero => intro i _; exact ⟨.nil, rfl, trivial⟩
          | succ c ihc =>
            intro i hi
            obtain ⟨r, hr1, hr2⟩ := ihc (i + 1) (by omega)
            obtain ⟨k, j, q, cp, f, g0, g1, g2, b', o', hs1, hs2⟩ := one i (by omega)
            rw [hadd] at g0
            rw [hadd2] at g1 g2
            refine ⟨.node 0 0 (k, j) f r, by rw [len, hr1], g0, g1, ⟨q, b', o', cp, g2, hs1, hs2⟩, ?_⟩
            rw [show o + i * 3 + 3 = o + (i + 1) * 3 by omega]
            exact hr2
        obtain ⟨f, hf1, hf2⟩ := build n 0 (by omega)
        refine ⟨some ⟨b, o, none⟩, cap, f, by rw [hf1]; exact hv, b, o, fun _ => rfl, by simpa using hf2⟩

set_option maxRecDepth 100000 in
/-- Whatever can be read as a term. -/
theorem read_term {r : Reach} {b0 : Nat} {v : Value} {d : DataW H} {p : List MemPlace} (hv : Value.okWide Tryd.prog w r b0 24 v) (h : DataW.Trod enc Tryd.prog w base sp hd 24 v d p) :
    ∃ (k n : Int) (q : Option Addr) (cap : Nat) (f : F), v = .agg #[.int .i64 k, .int .i64 n, .slice q (len f) cap] ∧ Sl w q f := by
  obtain ⟨v0, v1, v2, y0, y1, y2, m, rfl, _, _, h0, h1, h2⟩ := open_agg3 Tryd.underlying24 (by kernel_rfl) cells24 hv h
  obtain ⟨k, e0, _, _⟩ := DataW.trod_int Tryd.underlying3 h0
  obtain ⟨n, e1, _, _⟩ := DataW.trod_int Tryd.underlying3 h1
  obtain ⟨q, cap, f, e2, hs⟩ := read_slice _ _ _ h2
  have e0' : v0 = .int .i64 k := by simpa using e0
  have e1' : v1 = .int .i64 n := by simpa using e1
  subst e0'
  subst e1'
  subst e2
  exact ⟨k, n, q, cap, f, rfl, hs⟩
end
end Go.Proofs.YtcgpjihfligdbaaDoor
