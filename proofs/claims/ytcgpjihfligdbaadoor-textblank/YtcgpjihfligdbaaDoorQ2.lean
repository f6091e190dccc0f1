/-
  Blanks are no matter: the walk of TextBlank.
-/
import Derived.Test.YtcgpjihfligdbaaDoorQ1
import Derived.Test.YtcgpjihfligdbaaDoorW3
import Derived.Test.YtcgpjihfligdbaaDoorPlain3
import Derived.Deep.RegionHeld3
namespace Go.Proofs.YtcgpjihfligdbaaDoor
open Go.RowKit Tmx
set_option maxRecDepth 60000

theorem same_self : ∀ (f : F), same f f = true
  | .nil => rfl
  | .node _ _ a l r => by rw [same, same_self l, same_self r]; simp
theorem sameT_self (k n : Int) (f : F) : sameT k n f k n f = true := by simp [sameT, same_self]
theorem spread_append : ∀ (a b : List UInt8), spread (a ++ b) = spread a ++ spread b
  | [], b => rfl
  | c :: a, b => by
    rw [List.cons_append, spread, spread, spread_append a b, List.append_assoc]
theorem spread_bracket {c : UInt8} (h : c = 40 ∨ c = 41) : spread [c] = [32, c, 10] := by rw [spread, if_pos h]; rfl
theorem spread_other {c : UInt8} (h : ¬ (c = 40 ∨ c = 41)) : spread [c] = [c] := by rw [spread, if_neg h]; rfl
theorem spread_len : ∀ (l : List UInt8), l.length ≤ (spread l).length
  | [] => Nat.le_refl _
  | c :: r => by
    rw [spread]
    have := spread_len r
    split <;> simp <;> omega
theorem parse_spread (ds ns : List (List UInt8)) {l : List UInt8} (h : (spread l).length ≤ 1500) : parseK ds ns (spread l) = parseK ds ns l := by
  have := spread_len l
  unfold parseK
  rw [if_neg (show ¬ 1500 < (spread l).length by omega), if_neg (show ¬ 1500 < l.length by omega), toks_spread]
/-- A term that was read is not too great. -/
theorem parse_size (ds ns : List (List UInt8)) (l : List UInt8) : size (ansK (parseK ds ns l)).1.2.2 < 4611686018427387904 := by
  unfold parseK
  split
  · decide
  · split
    · decide
    · rename_i h8
      cases hT : termK ds 24 ns (toks l) with
      | error y => exact (by decide : size (.nil : F) < 4611686018427387904)
      | ok p =>
        obtain ⟨x, r⟩ := p
        cases r with
        | nil => exact look_small (termK_right ds 24 1 (by omega) ns (toks l) x [] (by omega) hT).1
        | cons a r => exact (by decide : size (.nil : F) < 4611686018427387904)

set_option maxRecDepth 60000 in
set_option maxHeartbeats 8000000 in
theorem blank_any (w : World) (l : List UInt8) (ns : List (List UInt8)) (pn : Option Addr) (cn : Nat) (hn : Tx w.heap.size w pn ns) (hv : Vs w.heap.size w) (hp : pn = none → cn = 0) (hl : l.length ≤ 140737488355328) (hn1 : ns.length ≤ 1152921504606846976) :
    Calls Tryd.prog 7 #[.string ⟨l.toArray⟩, .slice pn ns.length cn] w fun e w' => e = .returned (.bool true) ∧ Below w.heap.size w w' := by
  go_enter Tryd.func7, Tryd.ntmps7
  go_wp2_with fail
  refine (alive_any w hv).mono ?_
  rintro e w1 ⟨rfl, hb1⟩
  go_wp2_with fail
  go_loopg [5, 15] l.length (fun g xs ix wr => ∃ (i : Nat) (x : List UInt8), g = l.length - i ∧ i ≤ l.length ∧ ix = .int .i64 (i : Int) ∧ xs = .string ⟨x.toArray⟩ ∧ Hid (x = spread (l.take i)) ∧ x.length ≤ 3 * i ∧ wr = w1)
  case atStart => exact ⟨0, [], by simp, Nat.zero_le _, rfl, rfl, by show [] = spread (l.take 0); simp [spread], by simp, rfl⟩
  case round =>
    obtain ⟨i, x, rfl, hi, rfl, rfl, HXS, hxl, rfl⟩ := hrel
    by_cases hlt : i < l.length
    · obtain ⟨c, hc⟩ : ∃ c, l[i] = c := ⟨_, rfl⟩
      have hby : ({ data := l.toArray } : ByteArray)[i]'(by simpa [ByteArray.size] using hlt) = c := hc
      have htk : l.take (i + 1) = l.take i ++ [c] := by rw [List.take_add_one, List.getElem?_eq_getElem hlt, hc]; rfl
      have hd : l.drop i = l[i] :: l.drop (i + 1) := List.drop_eq_getElem_cons hlt
      have hx2 := wd_slice (l := l) (i := i) (j := i + 1)
      have he2 : (l.drop i).take (i + 1 - i) = [c] := by rw [hd, hc, show i + 1 - i = 1 by omega]; rfl
      rw [he2] at hx2
      have HN : Hid (spread (l.take (i + 1)) = x ++ spread [c]) := by rw [htk, spread_append, HXS.out]; rfl
      clear hc hd he2 htk
      have n1 : ¬ (9223372036854775807 < x.length + 1) := by omega
      by_cases hk : c = 40 ∨ c = 41
      · have HN2 : Hid (x ++ [32] ++ [c] ++ [10] = spread (l.take (i + 1))) := by rw [HN.out, spread_bracket hk]; show _ = _; simp
        have n2 : ¬ (9223372036854775807 < x.length + 1 + 1) := by omega
        have n3 : ¬ (9223372036854775807 < x.length + 1 + 1 + 1) := by omega
        rcases hk with rfl | rfl
        all_goals
          go_wp2_with fail
          go_roundg (l.length - (i + 1))
          case measure => omega
          case rel => exact ⟨i + 1, _, rfl, hlt, by go_num, by rw [bs_append x [32], bs_append (x ++ [32]) _, bs_append _ [10]], HN2, by simp; omega, rfl⟩
      · have HN2 : Hid (x ++ [c] = spread (l.take (i + 1))) := by rw [HN.out, spread_other hk]; rfl
        have b3 : ((c.toNat : Int) == 40) = false := by rw [beq_eq_false_iff_ne]; intro h; exact hk (.inl (UInt8.toNat_inj.1 (by show c.toNat = 40; omega)))
        have b4 : ((c.toNat : Int) == 41) = false := by rw [beq_eq_false_iff_ne]; intro h; exact hk (.inr (UInt8.toNat_inj.1 (by show c.toNat = 41; omega)))
        go_wp2_with fail
        go_roundg (l.length - (i + 1))
        case measure => omega
        case rel => exact ⟨i + 1, _, rfl, hlt, by go_num, by rw [bs_append x [c]], HN2, by simp; omega, rfl⟩
    · obtain rfl : i = l.length := by omega
      have hxs : x = spread l := by rw [HXS.out, List.take_length]
      have HXL : Hid (x = spread l) := hxs
      clear hxs HXS
      by_cases h15 : 1500 < x.length
      · go_wp2_with fail
        go_ret
        exact ⟨rfl, hb1⟩
      · obtain ⟨X, hX⟩ : ∃ X, ansK (parseK [] ns l) = X := ⟨_, rfl⟩
        have hX2 : ansK (parseK [] ns x) = X := by rw [HXL.out, parse_spread [] ns (by rw [← HXL.out]; omega), hX]
        have hXs : size X.1.2.2 < 4611686018427387904 := by rw [← hX]; exact parse_size [] ns l
        have hz1 := hb1.size
        have hv1 : Vs wr.heap.size wr := ⟨by have := hv.1; omega, (hv.below hb1).2⟩
        have HP1 : Hid (Calls Tryd.prog 23 #[.string ⟨l.toArray⟩, .slice pn ns.length cn, .slice none 0 0] wr (ParsePost wr X)) := by
          have := pparse_any wr l ns [] pn none cn 0 ((hn.along fun b _ hs => hb1.block b hs).mono hz1) (Tx.nil _ _ _) hv1 hp (by omega) hn1 (by decide)
          rw [hX] at this
          exact this
        go_wp2_with fail
        refine HP1.out.mono ?_
        clear HP1
        rintro e w2 ⟨⟨p2, c2, rfl, hs2⟩, hb2⟩
        have hbA : Below w2.heap.size w2 (w2.alloc (.cells #[.int .i64 X.1.1, .int .i64 X.1.2.1, .slice p2 (len X.1.2.2) c2] 24)) := (Below.refl _ _).alloc (Nat.le_refl _) _
        have bx2 := Box.new w2 (.int .i64 X.1.1) (.int .i64 X.1.2.1) (.slice p2 (len X.1.2.2) c2)
        have hb03 : Below w.heap.size w (w2.alloc (.cells #[.int .i64 X.1.1, .int .i64 X.1.2.1, .slice p2 (len X.1.2.2) c2] 24)) := (hb1.trans (hb2.mono hz1)).trans (hbA.mono (by have := hb2.size; omega))
        have hs3 := hs2.sl.below hbA
        obtain ⟨W3, hW3⟩ : ∃ W3, w2.alloc (.cells #[.int .i64 X.1.1, .int .i64 X.1.2.1, .slice p2 (len X.1.2.2) c2] 24) = W3 := ⟨_, rfl⟩
        rw [hW3] at bx2 hb03 hs3
        have hz3 := hb03.size
        have hv3 : Vs W3.heap.size W3 := ⟨by have := hv.1; omega, (hv.below hb03).2⟩
        have HP2 : Hid (Calls Tryd.prog 23 #[.string ⟨x.toArray⟩, .slice pn ns.length cn, .slice none 0 0] W3 (ParsePost W3 X)) := by
          have := pparse_any W3 x ns [] pn none cn 0 ((hn.along fun b _ hs => hb03.block b hs).mono hz3) (Tx.nil _ _ _) hv3 hp (by omega) hn1 (by decide)
          rw [hX2] at this
          exact this
        clear hbA hX hX2 hs2 hv3 hv1
        subst hW3
        go_wp2_with fail
        refine HP2.out.mono ?_
        clear HP2
        rintro e w4 ⟨⟨p4, c4, rfl, hs4⟩, hb4⟩
        have bx4 := bx2.below hb4
        have hb04 : Below w.heap.size w w4 := hb03.trans (hb4.mono hz3)
        have hbB : Below w4.heap.size w4 (w4.alloc (.cells #[.int .i64 X.1.1, .int .i64 X.1.2.1, .slice p4 (len X.1.2.2) c4] 24)) := (Below.refl _ _).alloc (Nat.le_refl _) _
        have hb05 : Below w.heap.size w (w4.alloc (.cells #[.int .i64 X.1.1, .int .i64 X.1.2.1, .slice p4 (len X.1.2.2) c4] 24)) := hb04.trans (hbB.mono hb04.size)
        have HSM := rsame_any (size X.1.2.2 + 1) X.1.2.2 X.1.2.2 X.1.1 X.1.2.1 X.1.1 X.1.2.1 p2 p4 c2 c4 (w4.alloc (.cells #[.int .i64 X.1.1, .int .i64 X.1.2.1, .slice p4 (len X.1.2.2) c4] 24)) (by omega) hXs hXs ((hs3.below hb4).below hbB) (hs4.sl.below hbB)
        rw [sameT_self] at HSM
        have HS2 : Hid (Calls Tryd.prog 14 #[.agg #[.int .i64 X.1.1, .int .i64 X.1.2.1, .slice p2 (len X.1.2.2) c2], .agg #[.int .i64 X.1.1, .int .i64 X.1.2.1, .slice p4 (len X.1.2.2) c4]] (w4.alloc (.cells #[.int .i64 X.1.1, .int .i64 X.1.2.1, .slice p4 (len X.1.2.2) c4] 24)) fun e w' => e = .returned (.bool true) ∧ Below (w4.alloc (.cells #[.int .i64 X.1.1, .int .i64 X.1.2.1, .slice p4 (len X.1.2.2) c4] 24)).heap.size (w4.alloc (.cells #[.int .i64 X.1.1, .int .i64 X.1.2.1, .slice p4 (len X.1.2.2) c4] 24)) w') := HSM
        clear HSM
        obtain ⟨y0, y1, y2, _, _, _⟩ := bx4.facts
        have hblt := bx4.lt
        go_wp2_with fail
        refine HS2.out.mono ?_
        rintro e w6 ⟨rfl, hb6⟩
        go_wp2_with fail
        go_ret
        exact ⟨rfl, hb05.trans (hb6.mono hb05.size)⟩
end Go.Proofs.YtcgpjihfligdbaaDoor
