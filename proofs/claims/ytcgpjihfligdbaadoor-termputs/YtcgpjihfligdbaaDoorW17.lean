/-
  The document's reader: a term of a text.
-/
import Derived.Test.YtcgpjihfligdbaaDoorW18
namespace Go.Proofs.YtcgpjihfligdbaaDoor
open Go.RowKit Tmx
set_option maxRecDepth 60000

theorem failE_ne (E e : Int) (he : e ≠ 0) : failE E e ≠ 0 := by
  unfold failE
  split <;> omega

set_option maxHeartbeats 1000000 in
theorem term_any (ds : List (List UInt8)) (pd : Option Addr) (cd : Nat) (hds : ds.length ≤ 1000) (n : Nat) :
    TermAt ds pd cd n := by
  induction n with
  | zero =>
    intro w r l E ns pn cn h hn hd hp hpl hnl hn24
    have hr0 := h.lt
    have hrz : r ≠ w.heap.size := by omega
    have bx0 := Box.new w (.int .i64 0) (.int .i64 0) (.slice none 0 0)
    have k0 := Kept.alloc r w (.cells #[.int .i64 0, .int .i64 0, .slice none 0 0] 24)
    have rd0 : Rd (w.alloc (.cells #[.int .i64 0, .int .i64 0, .slice none 0 0] 24)) r l (.slice pd ds.length cd) E := h.below ((Below.refl _ _).alloc (Nat.le_refl _) _)
    have HT : Hid (termS ds 0 ns l E = ((0, 0, .nil), l, failE E 9)) := by rw [termS]; rfl
    go_enter Tryd.func53, Tryd.ntmps53
    go_wp2_with fail
    refine (fail_any _ r l _ E 9 rd0).mono ?_
    rintro e w3 ⟨rfl, hr3, hk3⟩
    have bx3 := hk3.box (fun e => hrz e.symm) bx0
    have kk := k0.trans hk3
    obtain ⟨c0, c1, c2, f0, f1, f2⟩ := bx3.facts
    obtain ⟨r0, r1, r2, g0, g1, g2⟩ := hr3.facts
    have tE : (failE E 9 != 0) = true := by rw [bne_iff_ne]; exact failE_ne E 9 (by decide)
    go_wp2_with fail
    obtain ⟨d0, d1, d2, _, _, _⟩ := (bx3.set (.int .i64 0) (.int .i64 0) (.slice none 0 0)).facts
    refine bodyPost_ret (v := .agg #[.int .i64 0, .int .i64 0, .slice none 0 0]) (by simp [results, Tryd.results53, go_sem, d0, d1, d2]) rfl ⟨⟨_, rfl, none, 0, by rw [HT.out]; rfl, by rw [HT.out]; exact SlF.nil _ _ _⟩, ?_, ?_⟩
    · rw [HT.out]
      exact hr3.of_block (by rw [Below.heap_setCell _ _ _ _ hrz, Below.heap_setCell _ _ _ _ hrz, Below.heap_setCell _ _ _ _ hrz])
    · exact ((kk.setNew (Nat.le_refl _) _).setNew (Nat.le_refl _) _).setNew (Nat.le_refl _) _
  | succ n ih =>
    intro w r l E ns pn cn h hn hd hp hpl hnl hn24
    have H := (show Hid _ from ih)
    clear ih
    have hr0 := h.lt
    have hrz : r ≠ w.heap.size := by omega
    have bx0 := Box.new w (.int .i64 0) (.int .i64 0) (.slice none 0 0)
    have k0 := Kept.alloc r w (.cells #[.int .i64 0, .int .i64 0, .slice none 0 0] 24)
    have rd0 : Rd (w.alloc (.cells #[.int .i64 0, .int .i64 0, .slice none 0 0] 24)) r l (.slice pd ds.length cd) E := h.below ((Below.refl _ _).alloc (Nat.le_refl _) _)
    rw [show (25 : Int) - ((n + 1 : Nat) : Int) = 24 - (n : Int) by omega]
    by_cases hE : E = 0
    · have tE : (E != 0) = false := by simpa using hE
      obtain ⟨r0, r1, r2, g0, g1, g2⟩ := rd0.facts
      by_cases hb : peekW l = [40]
      · exact term_bracket ds pd cd n H.out w r l E ns pn cn h hn hd hp hpl hnl hn24 hE hb
      · have HT : Hid (termS ds (n + 1) ns l E = ((atomS ns ds (peekW l) (wE l E)).1, restW l, (atomS ns ds (peekW l) (wE l E)).2)) := by
          rw [termS]
          dsimp only
          rw [if_neg (by simpa using hE), if_neg hb]
          rfl
        have tb : (peekW l == [40]) = false := by simpa using hb
        clear hE hb
        go_enter Tryd.func53, Tryd.ntmps53
        go_wp2_with fail
        refine (w_any _ r l _ E rd0 (by have := hpl.2; omega)).mono ?_
        rintro e w1 ⟨rfl, hr1, hk1⟩
        have bx1 := hk1.box (fun e => hrz e.symm) bx0
        have kk1 := k0.trans hk1
        clear r0 r1 r2 g0 g1 g2
        go_wp2_with fail
        refine (atom_any w1 r (restW l) (peekW l) pn pd ns ds cn cd (wE l E) hr1 (hn.kept kk1) (hd.kept kk1) hpl.peek (by have := hpl.peek_len; omega) (by omega) (by omega)).mono ?_
        rintro e w2 ⟨⟨v, rfl, p, cap', rfl, hsl⟩, hr2, hk2⟩
        have bx2 := hk2.box (fun e => hrz e.symm) bx1
        have kk2 := kk1.trans hk2
        obtain ⟨c0, c1, c2, f0, f1, f2⟩ := bx2.facts
        have hz := kk1.size
        generalize atomS ns ds (peekW l) (wE l E) = X at HT hsl hr2 ⊢
        go_wp2_with fail
        obtain ⟨d0, d1, d2, _, _, _⟩ := (bx2.set (.int .i64 X.1.1) (.int .i64 X.1.2.1) (.slice p (len X.1.2.2) cap')).facts
        refine bodyPost_ret (v := .agg #[.int .i64 X.1.1, .int .i64 X.1.2.1, .slice p (len X.1.2.2) cap']) (by simp [results, Tryd.results53, go_sem, d0, d1, d2]) rfl ⟨⟨_, rfl, p, cap', by rw [HT.out], ?_⟩, ?_, ?_⟩
        · rw [HT.out]
          have hz1 : w.heap.size < w1.heap.size := bx1.lt
          exact (((hsl.setCell (by show w.heap.size < _; omega) _).setCell (by show w.heap.size < _; omega) _).setCell (by show w.heap.size < _; omega) _).mono (by omega)
        · rw [HT.out]
          exact hr2.of_block (by rw [Below.heap_setCell _ _ _ _ hrz, Below.heap_setCell _ _ _ _ hrz, Below.heap_setCell _ _ _ _ hrz])
        · exact ((kk2.setNew (Nat.le_refl _) _).setNew (Nat.le_refl _) _).setNew (Nat.le_refl _) _
    · have HT : Hid (termS ds (n + 1) ns l E = ((0, 0, .nil), l, E)) := by rw [termS]; dsimp only; rw [if_pos hE]; rfl
      have tE : (E != 0) = true := by simpa using hE
      obtain ⟨r0, r1, r2, g0, g1, g2⟩ := rd0.facts
      obtain ⟨c0, c1, c2, f0, f1, f2⟩ := bx0.facts
      go_enter Tryd.func53, Tryd.ntmps53
      go_wp2_with fail
      refine bodyPost_ret (v := .agg #[.int .i64 0, .int .i64 0, .slice none 0 0]) (by simp [results, Tryd.results53, go_sem]) rfl ⟨⟨_, rfl, none, 0, by rw [HT.out]; rfl, by rw [HT.out]; exact SlF.nil _ _ _⟩, ?_, ?_⟩
      · rw [HT.out]
        exact rd0
      · exact k0
end Go.Proofs.YtcgpjihfligdbaaDoor
