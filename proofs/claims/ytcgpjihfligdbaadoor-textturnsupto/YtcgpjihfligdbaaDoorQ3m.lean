/-
  What the listed variables give; a text, and a list of texts, among the arguments.
-/
/-
  A list of texts as it is read, with the texts themselves in the datum: what the bound on the input's bulk gives for each text. And the bound's own laws.
-/
import Derived.Test.YtcgpjihfligdbaaDoorRows
import Derived.Test.YtcgpjihfligdbaaDoorX9
import Derived.Stop.LaidErr
import Derived.Lib.LaidTab
import Derived.SliceStrings
import Derived.ProofKit
namespace Go.Proofs.YtcgpjihfligdbaaDoor
open Go.RowKit Tmx Go.ChangeShapes Go.WideShapes
set_option maxRecDepth 60000

/-- An array of texts that reads as these holds them. -/
theorem cells_of_texts {H : Type} {enc : TypeId × Value → H} {P : Program} {w : World} {base : Nat} {sp : Nat → Bool} {held : Bool} {fuel : Nat} {t e : TypeId} {n : Nat} {cs : List Value} {zs : List (List UInt8)} {p : List MemPlace}
    (ht : P.underlying t = some (.array n e)) (he : P.underlying e = some .string) (hce : P.cellsOf e = 1) (hct : P.cellsOf t = n)
    (h : DataW.trod enc P w base sp held fuel t cs = some (.agg (zs.map fun z => .lit (.string z)), p)) : cs = zs.map fun z => Value.string ⟨z.toArray⟩ := by
  cases fuel with
  | zero => simp [DataW.trod] at h
  | succ fuel =>
    simp only [DataW.trod, ht, hce, hct, Nat.mul_one] at h
    split at h
    · rename_i hl
      obtain ⟨xs, hm, hx⟩ := Option.map_eq_some_iff.1 h
      have hxs : xs.map (·.1) = zs.map fun z => (DataW.lit (.string z) : DataW H) := by
        have := congrArg Prod.fst hx
        simpa using this
      have hxl : xs.length = n := by simpa using Lib.mapM_length hm
      have hzl : zs.length = n := by
        have := congrArg List.length hxs
        simp at this
        omega
      apply List.ext_getElem?
      intro i
      by_cases hi : i < n
      · obtain ⟨b, hb, hf⟩ := Lib.mapM_at hm i i (by simp [hi])
        obtain ⟨s, hc, rfl, _⟩ := DataW.trod_string he hf
        have h1 : cs[i]? = some (.string s) := by
          have := congrArg (·[0]?) hc
          simpa [List.getElem?_take, List.getElem?_drop] using this
        have h2 : (xs.map (·.1))[i]? = some (DataW.lit (.string s.data.toList) : DataW H) := by simp [hb]
        rw [hxs] at h2
        simp only [List.getElem?_map, Option.map_eq_some_iff, DataW.lit.injEq, Lit.string.injEq] at h2
        obtain ⟨z', hz', hz2⟩ := h2
        simp [h1, hz', hz2]
      · rw [List.getElem?_eq_none (by omega), List.getElem?_eq_none (by simp; omega)]
    · cases h

theorem gWordsType : (Tryd.prog.globals[0]?).map (·.type) = some 105 := by kernel_rfl
theorem gPowType : (Tryd.prog.globals[1]?).map (·.type) = some 153 := by kernel_rfl
theorem gSynType : (Tryd.prog.globals[2]?).map (·.type) = some 114 := by kernel_rfl
theorem gRanType : (Tryd.prog.globals[3]?).map (·.type) = some 114 := by kernel_rfl
theorem cells18 : Tryd.prog.cellsOf 105 = 18 := by kernel_rfl
theorem cells9 : Tryd.prog.cellsOf 9 = 1 := by kernel_rfl
theorem cells20 : Tryd.prog.cellsOf 153 = 20 := by kernel_rfl
theorem cellsU : Tryd.prog.cellsOf 141 = 1 := by kernel_rfl

theorem uErr : ∃ ms, Tryd.prog.underlying 114 = some (.interface ms) := ⟨_, Tryd.underlying114⟩
/-- A listed error. -/
theorem err_of_head {W : World} {name nm : String} {d : DataW Unit} {rest : List (String × DataW Unit)} {g : Nat} (hg : Tryd.prog.globalNamed name = some g) (ht : (Tryd.prog.globals[g]?).map (·.type) = some 114)
    (h : laidMet Tryd.prog ((name, .iface nm d) :: rest) W) : ∃ tp p, W.var? Tryd.prog name = some #[.iface tp p] := by
  obtain ⟨ms, hi⟩ := uErr
  obtain ⟨ps, ⟨g', t', cs, fuel, p, q, hg', ht', hvar, hd, _, _⟩, _⟩ := h
  obtain rfl := Option.some.inj (hg.symm.trans hg')
  obtain rfl := Option.some.inj (ht.symm.trans ht')
  obtain ⟨l⟩ := cs
  obtain ⟨f1, u, v, e, _, _⟩ := iface_of_trod hi hd
  exact ⟨u, v, by rw [hvar]; simp at e; rw [e]⟩
/-- What the row's list gives. -/
theorem vs_of_laid {W : World} (h : laidMetH Tryd.prog Rows.textBlankRow.laid W) : Vs W.heap.size W := by
  have h0 : laidMet Tryd.prog Rows.textBlankRow.laid W := h
  have hpow : Lib.TabIs Tryd.prog W "internal/strconv.uint64pow10" .u64 Lib.pow10Tab := Lib.tabIs_of_head (rest := _) gPow gPowType (by kernel_rfl) (by kernel_rfl) cellsU cells20 h0.tail.tail
  have hran := err_of_head gRange gRanType h0.tail.tail.tail
  have hsyn := err_of_head gSyntax gSynType h0.tail.tail.tail.tail
  have hw : W.var? Tryd.prog "sortkernel/text.words" = some wordsC := by
    obtain ⟨ps, ⟨g', t', cs, fuel, p, q, hg', ht', hvar, hd, _, _⟩, _⟩ := h0.tail.tail.tail.tail.tail
    obtain rfl := Option.some.inj (gWords.symm.trans hg')
    obtain rfl := Option.some.inj (gWordsType.symm.trans ht')
    obtain ⟨l⟩ := cs
    have := cells_of_texts (zs := wordsT) (by kernel_rfl) (by kernel_rfl) cells9 cells18 hd
    rw [hvar]
    unfold wordsC
    rw [← this]
  refine ⟨?_, hsyn, hran, hpow, hw⟩
  obtain ⟨ps, ⟨g', t', cs, fuel, p, q, hg', ht', hvar, hd, _, _⟩, _⟩ := h0.tail
  obtain rfl := Option.some.inj ((show Tryd.prog.globalNamed "math/bits.deBruijn64tab" = some 5 by kernel_rfl).symm.trans hg')
  have hlt : 5 < W.heap.size := by
    rcases Nat.lt_or_ge 5 W.heap.size with h | h
    · exact h
    · simp [World.var?, hg', Array.getElem?_eq_none h] at hvar
  omega

section
variable {H : Type} {enc : TypeId × Value → H} {w : World} {base : Nat} {hd : Bool}
set_option maxRecDepth 100000 in
/-- Whatever can be read as a list of texts holds one. -/
theorem read_texts {r : Reach} {b0 : Nat} {v : Value} {d : DataW H} {ps : List MemPlace} (hv : Value.okWide Tryd.prog w r b0 36 v) (h : DataW.Trod enc Tryd.prog w base (fun _ => true) hd 36 v d ps) :
    ∃ p cap ns, v = .slice p ns.length cap ∧ Tx w.heap.size w p ns ∧ (p = none → cap = 0) ∧ (ns = [] ∨ ∃ elems rest, d = .slice elems rest ∧ elems.length = ns.length) := by
  obtain ⟨fuel, hf⟩ := h
  obtain ⟨q, n, cap, rfl⟩ := okWide_slice Tryd.underlying36 hv
  rcases open_strings Tryd.underlying36 Tryd.underlying9 cells9 hf with ⟨hcs, _⟩ | ⟨a, n', cap', ss, hcs, _, hl, hm, hz, hx, hcell, hsz⟩
  · obtain ⟨rfl, rfl, rfl⟩ : q = none ∧ n = 0 ∧ cap = 0 := by simpa [Value.cells] using hcs
    exact ⟨none, 0, [], rfl, Tx.nil _ _ _, fun _ => rfl, .inl rfl⟩
  · obtain ⟨rfl, rfl, rfl⟩ : q = some a ∧ n = n' ∧ cap = cap' := by simpa [Value.cells] using hcs
    have hl2 : n ≤ ss.length := by rw [hz]; simp; omega
    obtain ⟨ns, hns⟩ : ∃ ns : List (List UInt8), ns = (ss.take n).map fun s => s.data.toList := ⟨_, rfl⟩
    have hnl : ns.length = n := by rw [hns]; simp; omega
    refine ⟨some a, cap, ns, by rw [hnl], ?_, fun e => by simp at e, .inr ⟨_, _, congrArg Prod.fst hx, by simp [strs, hnl]; omega⟩⟩
    rcases Nat.eq_zero_or_pos n with hn | hn
    · have : ns = [] := List.eq_nil_of_length_eq_zero (by omega)
      rw [this]
      exact Tx.nil _ _ _
    · have h0 := hcell 0 (by omega)
      obtain ⟨b, o, spot⟩ := a
      have hspot : spot = none := by simpa [Addr.add] using World.cell?_spot h0
      subst hspot
      have hadd : ∀ i, (⟨b, o, none⟩ : Addr).add i = ⟨b, o + i, none⟩ := fun i => by unfold Addr.add; split <;> simp_all
      have hb : b < w.heap.size := by
        rw [hadd] at h0
        exact World.block_lt_of_cell? w ⟨b, o + 0, none⟩ h0
      refine ⟨b, o, fun _ => ⟨rfl, hb⟩, fun i hi => ?_⟩
      have h1 := hcell i (by omega)
      rw [hadd] at h1
      rw [h1, hns]
      have h2 : i < ss.length := by omega
      simp [List.getD_eq_getElem?_getD, List.getElem?_eq_getElem h2, show i < n by omega]
end
end Go.Proofs.YtcgpjihfligdbaaDoor

namespace Go.Proofs.YtcgpjihfligdbaaDoor
open Go.RowKit Tmx Go.ChangeShapes Go.WideShapes
set_option maxRecDepth 60000

theorem bulk_pos {H : Type} (d : DataW H) : 1 ≤ Rows.uptoBulk d := by
  cases d with
  | lit l => cases l <;> simp [Rows.uptoBulk]
  | _ => simp [Rows.uptoBulk]
theorem bulk_mem {H : Type} {d : DataW H} {l : List (DataW H)} (h : d ∈ l) : Rows.uptoBulk d ≤ Rows.uptoBulkAll l := by
  induction l with
  | nil => cases h
  | cons x r ih =>
    simp only [Rows.uptoBulkAll]
    rcases List.mem_cons.1 h with rfl | e
    · omega
    · have := ih e
      omega
theorem bulk_len {H : Type} (l : List (DataW H)) : l.length ≤ Rows.uptoBulkAll l := by
  induction l with
  | nil => simp [Rows.uptoBulkAll]
  | cons x r ih =>
    have := bulk_pos x
    simp only [Rows.uptoBulkAll, List.length_cons]
    omega

section
variable {H : Type} {enc : TypeId × Value → H} {w : World} {base : Nat} {hd : Bool}
set_option maxRecDepth 100000 in
/-- The texts of a list that can be read, and that the datum's bulk counts them and their bytes. -/
theorem read_texts_bulk {r : Reach} {b0 : Nat} {v : Value} {d : DataW H} {ps : List MemPlace} (hv : Value.okWide Tryd.prog w r b0 36 v) (h : DataW.Trod enc Tryd.prog w base (fun _ => true) hd 36 v d ps) :
    ∃ p cap ns, v = .slice p ns.length cap ∧ Tx w.heap.size w p ns ∧ (p = none → cap = 0) ∧ ns.length ≤ Rows.uptoBulk d ∧ ∀ x ∈ ns, x.length ≤ Rows.uptoBulk d := by
  obtain ⟨fuel, hf⟩ := h
  obtain ⟨q, n, cap, rfl⟩ := okWide_slice Tryd.underlying36 hv
  rcases open_strings Tryd.underlying36 Tryd.underlying9 cells9 hf with ⟨hcs, _⟩ | ⟨a, n', cap', ss, hcs, _, hl, hm, hz, hx, hcell, hsz⟩
  · obtain ⟨rfl, rfl, rfl⟩ : q = none ∧ n = 0 ∧ cap = 0 := by simpa [Value.cells] using hcs
    exact ⟨none, 0, [], rfl, Tx.nil _ _ _, fun _ => rfl, by simp, by simp⟩
  · obtain ⟨rfl, rfl, rfl⟩ : q = some a ∧ n = n' ∧ cap = cap' := by simpa [Value.cells] using hcs
    have hl2 : n ≤ ss.length := by rw [hz]; simp; omega
    obtain ⟨ns, hns⟩ : ∃ ns : List (List UInt8), ns = (ss.take n).map fun s => s.data.toList := ⟨_, rfl⟩
    have hnl : ns.length = n := by rw [hns]; simp; omega
    have hd' := congrArg Prod.fst hx
    refine ⟨some a, cap, ns, by rw [hnl], ?_, fun e => by simp at e, ?_, ?_⟩
    · rcases Nat.eq_zero_or_pos n with hn | hn
      · have : ns = [] := List.eq_nil_of_length_eq_zero (by omega)
        rw [this]
        exact Tx.nil _ _ _
      · have h0 := hcell 0 (by omega)
        obtain ⟨b, o, spot⟩ := a
        have hspot : spot = none := by simpa [Addr.add] using World.cell?_spot h0
        subst hspot
        have hadd : ∀ i, (⟨b, o, none⟩ : Addr).add i = ⟨b, o + i, none⟩ := fun i => by unfold Addr.add; split <;> simp_all
        have hb : b < w.heap.size := by
          rw [hadd] at h0
          exact World.block_lt_of_cell? w ⟨b, o + 0, none⟩ h0
        refine ⟨b, o, fun _ => ⟨rfl, hb⟩, fun i hi => ?_⟩
        have h1 := hcell i (by omega)
        rw [hadd] at h1
        rw [h1, hns]
        have h2 : i < ss.length := by omega
        simp [List.getD_eq_getElem?_getD, List.getElem?_eq_getElem h2, show i < n by omega]
    · rw [show d = _ from hd']
      have := bulk_len (strs (H := H) (ss.take n))
      simp only [Rows.uptoBulk]
      have e : (strs (H := H) (ss.take n)).length = ns.length := by simp [strs, hns]
      omega
    · intro x hxm
      rw [show d = _ from hd']
      rw [hns] at hxm
      obtain ⟨s, hs, rfl⟩ := List.mem_map.1 hxm
      have hm' : (DataW.lit (H := H) (.string s.data.toList)) ∈ strs (H := H) (ss.take n) := by
        simp only [strs, List.mem_map]
        exact ⟨s, hs, rfl⟩
      have := bulk_mem hm'
      simp only [Rows.uptoBulk] at this ⊢
      omega
end
end Go.Proofs.YtcgpjihfligdbaaDoor
