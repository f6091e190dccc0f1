/-
  takeArgs: the arguments that bytes begin with; take: the term that they begin with.
-/
import Derived.Test.YtcgpjihfligdbaaB1
import Derived.Test.YtcgpjihfligdbaaB3
import Derived.Test.YtcgpjihfligdbaaApT
namespace Go.Proofs.Ytcgpjihfligdbaa
open Go.RowKit Tmx

/-- What is answered, of what there is: a term, what is behind it, and OK; or an error alone. -/
def PostT (w0 w : World) (R : GotT) (e : Ending) (w' : World) : Prop := Below w.heap.size w w' ∧ match R with
  | .error x => e = .returned (.tuple #[.agg #[.int .i64 0, .int .i64 0, .slice none 0 0], .slice none 0 0, .int .i64 x]) ∧ x ≠ 0
  | .ok y => ∃ q c p' cap', e = .returned (.tuple #[.agg #[.int .i64 y.1.1, .int .i64 y.1.2.1, .slice q (len y.1.2.2) c], .slice p' y.2.length cap', .int .i64 0]) ∧ SlF w.heap.size w' q y.1.2.2 ∧ Bs w0 p' y.2 ∧ y.2.length ≤ cap' ∧ (p' = none → cap' = 0)

/-- take keeps its word at so many levels. -/
def TakeP (d : Nat) : Prop := ∀ (l : List UInt8) (p : Option Addr) (cap : Nat) (w0 w : World), Bs w0 p l → Below w0.heap.size w0 w → l.length ≤ cap → (p = none → cap = 0) →
  Calls Try.prog 47 #[.slice p l.length cap, .int .i64 (24 - (d : Int))] w (PostT w0 w (getT d l))

set_option maxHeartbeats 1000000 in
theorem takeArgs_any (d m : Nat) (hm4 : m ≤ 4) (hT : TakeP d) (k n : Int) (l : List UInt8) (p : Option Addr) (cap : Nat) (w0 w : World) (hs : Bs w0 p l) (hW : Below w0.heap.size w0 w) (hcap : l.length ≤ cap) (hp : p = none → cap = 0) :
    Calls Try.prog 60 #[.agg #[.int .i64 k, .int .i64 n, .slice none 0 0], .slice p l.length cap, .int .i64 (m : Int), .int .i64 (24 - (d : Int))] w (PostT w0 w (finG (getT d) m k n l)) := by
  have H : Hid (TakeP d) := hT
  clear hT
  have HP : Hid (p = none → cap = 0) := hp
  clear hp
  obtain ⟨X, hX⟩ : ∃ X, argsG (getT d) m .nil l = X := ⟨_, rfl⟩
  have HX : Hid (argsG (getT d) m .nil l = X) := hX
  rw [show finG (getT d) m k n l = finR k n X by unfold finG; rw [hX]]
  clear hX
  go_enter Try.func60, Try.ntmps60
  go_wp2_with fail
  have hz0 := hW.size
  obtain ⟨lo, hlo⟩ : ∃ lo, lo = w.heap.size + 2 := ⟨_, rfl⟩
  go_loopw [1, 15] (fun b i wr => ∃ (j : Nat) (A : F) (l' : List UInt8) (p' : Option Addr) (cap' : Nat) (pv : Option Addr) (cv : Nat), j ≤ m ∧ i = .int .i64 j ∧ b = .slice p' l'.length cap' ∧ Bs w0 p' l' ∧ l'.length ≤ cap' ∧ Hid (p' = none → cap' = 0) ∧ Hid (len A = j ∧ argsG (getT d) (m - j) A l' = X) ∧
      Box wr w.heap.size (.int .i64 k) (.int .i64 n) (.slice pv (len A) cv) ∧ ArgsIn lo wr (.slice pv (len A) cv) A ∧ Box wr (w.heap.size + 1) (.int .i64 0) (.int .i64 0) (.slice none 0 0) ∧ Below w.heap.size w wr ∧ lo ≤ wr.heap.size) (fun _ i _ => m - (intOf i).toNat)
  case atStart =>
    have bx0 := (Box.new w (.int .i64 k) (.int .i64 n) (.slice none 0 0)).alloc (.cells #[.int .i64 0, .int .i64 0, .slice none 0 0] 24)
    have br0 := Box.new (w.alloc (.cells #[.int .i64 k, .int .i64 n, .slice none 0 0] 24)) (.int .i64 0) (.int .i64 0) (.slice none 0 0)
    rw [show (w.alloc (.cells #[.int .i64 k, .int .i64 n, .slice none 0 0] 24)).heap.size = w.heap.size + 1 by simp] at br0
    exact ⟨0, .nil, l, p, cap, none, 0, Nat.zero_le _, rfl, rfl, hs, hcap, HP, ⟨rfl, HX.out⟩, bx0, ArgsIn.nil _ _, br0, ((Below.refl _ _).alloc (Nat.le_refl _) _).alloc (by simp) _, by simp; omega⟩
  case round =>
    obtain ⟨j, A, l', p', cap', pv, cv, hj, rfl, rfl, hs', hcap', HP', HA, bx, hA, br, hb, hz⟩ := hrel
    by_cases hlt : j < m
    · obtain ⟨Y, hY⟩ : ∃ Y, getT d l' = Y := ⟨_, rfl⟩
      have HY : Hid (getT d l' = Y) := hY
      have HC : Hid (Calls Try.prog 47 #[.slice p' l'.length cap', .int .i64 (24 - (d : Int))] wr (PostT w0 wr Y)) := by rw [← hY]; exact H.out l' p' cap' w0 wr hs' (hW.trans (hb.mono hz0)) hcap' HP'.out
      clear hY
      go_wp2_with fail
      refine HC.out.mono ?_
      rintro e w1 ⟨hb1, hr⟩
      clear HC
      have bx1 := bx.below hb1
      have br1 := br.below hb1
      obtain ⟨c0, c1, c2, f0, f1, f2⟩ := bx1.facts
      obtain ⟨d0, d1, d2, g0, g1, g2⟩ := br1.facts
      have hz1 := hb1.size
      have lx := bx1.lt
      have lr := br1.lt
      have hbw : Below w.heap.size w w1 := hb.trans (hb1.mono hb.size)
      cases Y with
      | error x =>
        obtain ⟨rfl, hx⟩ := hr
        have HX0 : Hid (X = .error x) := by
          show _ = _
          rw [← HA.out.2, show m - j = (m - (j + 1)) + 1 by omega, argsG, HY.out]
        have tx : (x != 0) = true := by simpa using hx
        go_wp2_with fail
        rw [HX0.out]
        obtain ⟨e0, e1, e2, _, _, _⟩ := ((br1.set (.int .i64 0) (.int .i64 0) (.slice none 0 0)).alloc (.cells #[.int .i64 0, .int .i64 0, .slice none 0 0] 24)).facts
        refine bodyPost_ret (v := .tuple #[.agg #[.int .i64 0, .int .i64 0, .slice none 0 0], .slice none 0 0, .int .i64 x]) (by simp [results, Try.results60, go_sem, e0, e1, e2]) rfl ⟨?_, rfl, hx⟩
        exact (((hbw.setCell (Nat.le_succ _) _).setCell (Nat.le_succ _) _).setCell (Nat.le_succ _) _).alloc (by simp [World.setCell]; omega) _
      | ok y =>
        obtain ⟨⟨yk, yn, yf⟩, yr⟩ := y
        obtain ⟨q, c, p2, cap2, rfl, hsl, hs2, hcap2, hp2⟩ := hr
        obtain ⟨g, cap3, w3, hr3, hA3, hb3, hz3⟩ := args_step (x := (yk, yn, yf)) (c := c) hA hz hb1 hsl (by have := HA.out.1; omega)
        have HR3 : Hid ((Builtin.append_ #[22, 22] 22 #[.slice pv (len A) cv, .slice (some ⟨w1.heap.size + 1, 0, none⟩) 1 1]).run Try.prog ((w1.alloc (.cells #[.int .i64 yk, .int .i64 yn, .slice q (len yf) c] 24)).alloc (.cells #[.int .i64 yk, .int .i64 yn, .slice q (len yf) c] 24)) = .ok (.slice (some ⟨g, 0, none⟩) (len A + 1) cap3) w3) := hr3
        clear hr3
        have bx3 : Box w3 w.heap.size _ _ _ := bx.of_block (hb3.block _ (by omega))
        have br3 : Box w3 (w.heap.size + 1) _ _ _ := br.of_block (hb3.block _ (by omega))
        obtain ⟨x0, x1, x2, y0, y1, y2⟩ := bx3.facts
        go_wp2_with (first | (at_builtin; refine wpList_append_run rfl _ _ 22 22 rfl _ _ _ rfl rfl HR3.out ?_))
        go_roundw
        case rel =>
          have hls := len_snoc A (yk, yn, yf)
          refine ⟨j + 1, snoc A (yk, yn, yf), yr, p2, cap2, some ⟨g, 0, none⟩, cap3, hlt, by go_num, rfl, hs2, hcap2, hp2, ⟨by rw [hls, HA.out.1], ?_⟩, ?_, ?_, ?_, ?_, ?_⟩
          · rw [← HA.out.2, show m - j = (m - (j + 1)) + 1 by omega, argsG, HY.out]
          · rw [hls]
            exact bx3.set2 _
          · rw [hls]
            exact hA3.along fun b hb _ => Below.heap_setCell _ _ _ _ (by show b ≠ w.heap.size; omega)
          · exact br3.setOther (by show w.heap.size + 1 ≠ w.heap.size; omega) _
          · exact (hb.trans (hb3.mono (by omega))).setCell (Nat.le_refl _) _
          · simp [World.setCell]; omega
        case measure => simp [intOf]; omega
    · obtain rfl : j = m := by omega
      obtain ⟨c0, c1, c2, f0, f1, f2⟩ := bx.facts
      obtain ⟨d0, d1, d2, g0, g1, g2⟩ := br.facts
      have lx := bx.lt
      have lr := br.lt
      have HX0 : Hid (X = .ok (A, l')) := by
        show _ = _
        rw [← HA.out.2, Nat.sub_self, argsG]
      go_wp2
      rw [HX0.out]
      refine bodyPost_ret (v := .tuple #[.agg #[.int .i64 k, .int .i64 n, .slice pv (len A) cv], .slice p' l'.length cap', .int .i64 0]) (by simp [results, Try.results60, go_sem, d0, d1, d2]) rfl ⟨?_, pv, cv, p', cap', rfl, ?_, hs', hcap', HP'.out⟩
      · exact ((hb.setCell (Nat.le_succ _) _).setCell (Nat.le_succ _) _).setCell (Nat.le_succ _) _
      · have h1 := hA.slF
        exact ((((h1.setCell (x := ⟨w.heap.size + 1, 0, none⟩) (by show w.heap.size + 1 < lo; omega) _).setCell (x := ⟨w.heap.size + 1, 1, none⟩) (by show w.heap.size + 1 < lo; omega) _).setCell (x := ⟨w.heap.size + 1, 2, none⟩) (by show w.heap.size + 1 < lo; omega) _)).mono (by omega)
end Go.Proofs.Ytcgpjihfligdbaa
