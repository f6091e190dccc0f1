/-
  The document's Parse, of a text that is a term, and the statements' read.
-/
import Derived.Test.YtcgpjihfligdbaaDoorW17
namespace Go.Proofs.YtcgpjihfligdbaaDoor
open Go.RowKit Tmx
set_option maxRecDepth 60000

set_option maxHeartbeats 1000000 in
theorem parse_ok (w : World) (l : List UInt8) (ns : List (List UInt8)) (pn : Option Addr) (cn : Nat) (x : Int × Int × F) (l' : List UInt8) (hpl : plainT l) (hns : ns.length ≤ 8) (hp : pn = none → cn = 0) (hS : ∀ r, w.heap.size ≤ r → Strs r w pn ns)
    (hX : termS [] 24 ns l 0 = (x, l', 0)) (hl' : peekW l' = []) :
    Calls Tryd.prog 24 #[.string ⟨l.toArray⟩, .slice pn ns.length cn, .slice none 0 0] w fun e w' => (∃ v, e = .returned (.tuple #[v, .int .i64 0]) ∧ Tm w.heap.size w' v x) ∧ Below w.heap.size w w' := by
  have h1500 := hpl.2
  have td1 : decide ((1500 : Int) < (l.length : Int)) = false := by simp; omega
  have td2 : decide ((8 : Int) < (ns.length : Int)) = false := by simp; omega
  have HX : Hid (termS [] 24 ns l 0 = (x, l', 0)) := hX
  have HL : Hid (peekW l' = []) := hl'
  clear hX hl'
  go_enter Tryd.func24, Tryd.ntmps24
  go_wp2_with fail
  have hr2 : Rd ((w.alloc (.cells #[.int .i64 0, .int .i64 0, .slice none 0 0] 24)).alloc (.cells #[.string ⟨l.toArray⟩, .slice none 0 0, .int .i64 0] 40)) (w.heap.size + 1) l (.slice none ([] : List (List UInt8)).length 0) 0 := by
    have := heap_alloc_new (w.alloc (.cells #[.int .i64 0, .int .i64 0, .slice none 0 0] 24)) (.cells #[.string ⟨l.toArray⟩, .slice none 0 0, .int .i64 0] 40)
    rw [World.size_alloc] at this
    exact this
  have hB2 : Below w.heap.size w ((w.alloc (.cells #[.int .i64 0, .int .i64 0, .slice none 0 0] 24)).alloc (.cells #[.string ⟨l.toArray⟩, .slice none 0 0, .int .i64 0] 40)) := ((Below.refl _ _).alloc (Nat.le_refl _) _).alloc (by simp) _
  have bx2 := (Box.new w (.int .i64 0) (.int .i64 0) (.slice none 0 0)).alloc (.cells #[.string ⟨l.toArray⟩, .slice none 0 0, .int .i64 0] 40)
  have hz2 : ((w.alloc (.cells #[.int .i64 0, .int .i64 0, .slice none 0 0] 24)).alloc (.cells #[.string ⟨l.toArray⟩, .slice none 0 0, .int .i64 0] 40)).heap.size = w.heap.size + 2 := by simp
  generalize ((w.alloc (.cells #[.int .i64 0, .int .i64 0, .slice none 0 0] 24)).alloc (.cells #[.string ⟨l.toArray⟩, .slice none 0 0, .int .i64 0] 40)) = W2 at *
  have hcall := term_any [] none 0 (by simp) 24 W2 (w.heap.size + 1) l 0 ns pn cn hr2 ((hS (w.heap.size + 1) (by omega)).kept (.of_below hB2)) (Strs.nil _ _ _) hp hpl (by omega) (by omega)
  rw [HX.out, show (25 : Int) - ((24 : Nat) : Int) = 1 by omega] at hcall
  refine hcall.mono ?_
  rintro e w1 ⟨⟨v, rfl, p, cap', rfl, hsl⟩, hrd, hk⟩
  clear hcall
  dsimp only at hsl hrd
  have hk1 : Below w.heap.size w w1 := hB2.trans (hk.below (by omega) (by omega))
  have bx1 := hk.box (by omega) bx2
  have hz1 := hk.size
  rw [hz2] at hsl hz1
  have hBt : Below w1.heap.size w1 (w1.alloc (.cells #[.int .i64 x.1, .int .i64 x.2.1, .slice p (len x.2.2) cap'] 24)) := (Below.refl _ _).alloc (Nat.le_refl _) _
  have rd3 := hrd.below hBt
  have bx3 := bx1.below hBt
  have bt3 := Box.new w1 (.int .i64 x.1) (.int .i64 x.2.1) (.slice p (len x.2.2) cap')
  obtain ⟨r0, r1, r2, g0, g1, g2⟩ := rd3.facts
  have hk3 : Below w.heap.size w (w1.alloc (.cells #[.int .i64 x.1, .int .i64 x.2.1, .slice p (len x.2.2) cap'] 24)) := hk1.trans (hBt.mono (by omega))
  have hsl3 := hsl.below hBt
  clear hrd bx1 hsl hk hr2 bx2 hB2 hBt
  have hz3 : (w1.alloc (.cells #[.int .i64 x.1, .int .i64 x.2.1, .slice p (len x.2.2) cap'] 24)).heap.size = w1.heap.size + 1 := by simp
  go_wp2_with fail
  refine (peek_any _ (w.heap.size + 1) l' _ 0 rd3 (by have := (termS_plain [] 24 ns l 0 hpl); rw [HX.out] at this; have := this.2; dsimp only at this; omega)).mono ?_
  rintro e w4 ⟨rfl, rd4, hk4⟩
  rw [HL.out]
  clear r0 r1 r2 g0 g1 g2
  obtain ⟨r0, r1, r2, g0, g1, g2⟩ := rd4.facts
  have bx4 := hk4.box (by omega) bx3
  have bt4 := hk4.box (by omega) bt3
  have hz4 := hk4.size
  rw [hz3] at hz4
  obtain ⟨x0, x1, x2, y0, y1, y2⟩ := bx4.facts
  obtain ⟨t0, t1, t2, _, _, _⟩ := bt4.facts
  have hb4 : Below w.heap.size w w4 := hk3.trans (hk4.below (by omega) (by omega))
  have hsl4 : SlF (w.heap.size + 2) w4 p x.2.2 := hsl3.carry fun b o u hb hu => hk4.cell (by omega) hu
  clear rd3 bx3 bt3 hk3 hsl3 hk4
  go_wp2_with fail
  obtain ⟨d0, d1, d2, _, _, _⟩ := (bx4.set (.int .i64 x.1) (.int .i64 x.2.1) (.slice p (len x.2.2) cap')).facts
  refine bodyPost_ret (v := .tuple #[.agg #[.int .i64 x.1, .int .i64 x.2.1, .slice p (len x.2.2) cap'], .int .i64 0]) (by simp [results, Tryd.results24, go_sem, d0, d1, d2]) rfl ⟨⟨_, rfl, p, cap', rfl, ?_⟩, ?_⟩
  · exact (((hsl4.setCell (by show w.heap.size < _; omega) _).setCell (by show w.heap.size < _; omega) _).setCell (by show w.heap.size < _; omega) _).mono (by omega)
  · exact ((hb4.setCell (Nat.le_refl _) _).setCell (Nat.le_refl _) _).setCell (Nat.le_refl _) _

set_option maxHeartbeats 1000000 in
theorem read_ok (w : World) (l : List UInt8) (ns : List (List UInt8)) (pn : Option Addr) (cn : Nat) (x : Int × Int × F) (l' : List UInt8) (hpl : plainT l) (hns : ns.length ≤ 8) (hp : pn = none → cn = 0) (hS : ∀ r, w.heap.size ≤ r → Strs r w pn ns)
    (hX : termS [] 24 ns l 0 = (x, l', 0)) (hl' : peekW l' = []) :
    Calls Tryd.prog 36 #[.string ⟨l.toArray⟩, .slice pn ns.length cn] w fun e w' => (∃ v, e = .returned v ∧ Tm w.heap.size w' v x) ∧ Below w.heap.size w w' := by
  have HX : Hid (termS [] 24 ns l 0 = (x, l', 0)) := hX
  clear hX
  have hB1 : Below w.heap.size w (w.alloc (.cells #[.int .i64 0, .int .i64 0, .slice none 0 0] 24)) := (Below.refl _ _).alloc (Nat.le_refl _) _
  have bx1 := Box.new w (.int .i64 0) (.int .i64 0) (.slice none 0 0)
  have hz1 : (w.alloc (.cells #[.int .i64 0, .int .i64 0, .slice none 0 0] 24)).heap.size = w.heap.size + 1 := by simp
  go_enter Tryd.func36, Tryd.ntmps36
  go_wp2_with fail
  refine (parse_ok _ l ns pn cn x l' hpl hns hp (fun r hr => (hS r (by omega)).kept (.of_below hB1)) HX.out hl').mono ?_
  rintro e w2 ⟨⟨v, rfl, p, cap', rfl, hsl⟩, hb2⟩
  have bx2 := bx1.below hb2
  have hz2 := hb2.size
  have hb12 : Below w.heap.size w w2 := hB1.trans (hb2.mono (by omega))
  rw [hz1] at hsl hz2
  clear bx1 hB1 hb2 hz1
  have lt2 := bx2.lt
  obtain ⟨x0, x1, x2, y0, y1, y2⟩ := bx2.facts
  go_wp2_with fail
  obtain ⟨d0, d1, d2, _, _, _⟩ := ((bx2.set (.int .i64 x.1) (.int .i64 x.2.1) (.slice p (len x.2.2) cap')).alloc (.cells #[.int .i64 x.1, .int .i64 x.2.1, .slice p (len x.2.2) cap'] 24)).facts
  have hsl3 := (((hsl.setCell (x := ⟨w.heap.size, 0, none⟩) (by show w.heap.size < _; omega) (.int .i64 x.1)).setCell (x := ⟨w.heap.size, 1, none⟩) (by show w.heap.size < _; omega) (.int .i64 x.2.1)).setCell (x := ⟨w.heap.size, 2, none⟩) (by show w.heap.size < _; omega) (.slice p (len x.2.2) cap')).mono (show w.heap.size ≤ w.heap.size + 1 by omega)
  refine bodyPost_ret (v := .agg #[.int .i64 x.1, .int .i64 x.2.1, .slice p (len x.2.2) cap']) (by simp [results, Tryd.results36, go_sem, d0, d1, d2]) rfl ⟨⟨_, rfl, p, cap', rfl, ?_⟩, ?_⟩
  · exact hsl3.below ((Below.refl _ _).alloc (Nat.le_refl _) _)
  · exact (((hb12.setCell (Nat.le_refl _) _).setCell (Nat.le_refl _) _).setCell (Nat.le_refl _) _).alloc (by simp [World.setCell]; exact hb12.size) _
end Go.Proofs.YtcgpjihfligdbaaDoor
