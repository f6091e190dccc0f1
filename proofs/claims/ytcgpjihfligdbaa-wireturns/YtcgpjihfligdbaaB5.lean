/-
  take: the term that bytes begin with.
-/
import Derived.Test.YtcgpjihfligdbaaB4
namespace Go.Proofs.Ytcgpjihfligdbaa
open Go.RowKit Tmx

set_option maxHeartbeats 1000000 in
theorem take_zero : TakeP 0 := by
  intro l p cap w0 w hs hW hcap hp
  clear hp
  rw [show (24 : Int) - ((0 : Nat) : Int) = 24 by omega, show getT 0 l = .error 9 from rfl]
  go_enter Try.func47, Try.ntmps47
  go_wp2_with fail
  refine bodyPost_ret (v := .tuple #[.agg #[.int .i64 0, .int .i64 0, .slice none 0 0], .slice none 0 0, .int .i64 9]) (by simp [results, Try.results47, go_sem]) rfl ⟨?_, rfl, by decide⟩
  exact (Below.refl _ _).alloc (Nat.le_refl _) _

/-- What is behind the first byte. -/
theorem tail_slice {w0 : World} {b o cap : Nat} {r : List UInt8} (hr : Bat w0 b (o + 1) r) (hcap : r.length + 1 ≤ cap) :
    ∃ b' o' : Nat, Bs w0 (some ⟨b', o', none⟩) r ∧ ∀ W : World, (Instr.sliceAt 39 (.slice (some ⟨b, o, none⟩) (r.length + 1) cap) (some (.int .i64 1)) none none).run Try.prog W = .ok (.slice (some ⟨b', o', none⟩) r.length (cap - 1)) W := by
  have hel : Try.prog.underlying 39 = some (.slice (Try.prog.elem 39)) := by kernel_rfl
  have hsz : ∀ W : World, (sizeOf (Try.prog.elem 39)).run Try.prog W = .ok 1 W := fun W => by kernel_rfl
  by_cases h : cap = 1
  · have hr0 : r = [] := List.eq_nil_of_length_eq_zero (by omega)
    refine ⟨b, o, by rw [hr0]; exact Bs.nil _ _, fun W => ?_⟩
    rw [run_sliceAt_slice _ _ _ _ _ _ hel, run_slice_l _ _ _ _ _ hel .i64 1 (by omega) (by omega), hsz]
    simp [sliced, h, Result.andThen]
  · refine ⟨b, o + 1, Bs.some hr, fun W => ?_⟩
    rw [run_sliceAt_slice _ _ _ _ _ _ hel, run_slice_l _ _ _ _ _ hel .i64 1 (by omega) (by omega), hsz]
    simp [sliced, h, Result.andThen]
    unfold Addr.add
    split <;> simp_all

set_option maxHeartbeats 1000000 in
theorem take_succ (d : Nat) (hd : d < 24) (hT : TakeP d) : TakeP (d + 1) := by
  intro l p cap w0 w hs hW hcap hp
  have H : Hid (TakeP d) := hT
  clear hT
  have hz0 := hW.size
  rw [show (24 : Int) - ((d + 1 : Nat) : Int) = 23 - (d : Int) by omega]
  cases l with
  | nil =>
    clear hp
    rw [show getT (d + 1) [] = .error 8 from rfl]
    go_enter Try.func47, Try.ntmps47
    go_wp2_with fail
    refine bodyPost_ret (v := .tuple #[.agg #[.int .i64 0, .int .i64 0, .slice none 0 0], .slice none 0 0, .int .i64 8]) (by simp [results, Try.results47, go_sem]) rfl ⟨?_, rfl, by decide⟩
    exact (Below.refl _ _).alloc (Nat.le_refl _) _
  | cons c r =>
    obtain ⟨b, o, rfl, hbl, hc0, hr0⟩ := hs.cons
    clear hp
    have hc1 : w.cell? ⟨b, o, none⟩ = some (.int .u8 (c.toNat : Int)) := below_some hW _ _ _ hc0
    have hbw : b < w.heap.size := by omega
    have hcb := c.toNat_lt
    rw [List.length_cons] at hcap ⊢
    obtain ⟨b1, o1, hs1, hsl1⟩ := tail_slice hr0 hcap
    have br2 := (Box.new w (.int .i64 0) (.int .i64 0) (.slice none 0 0)).alloc (.cells #[.int .i64 (c.toNat : Int), .int .i64 0, .slice none 0 0] 24)
    have bx2 := Box.new (w.alloc (.cells #[.int .i64 0, .int .i64 0, .slice none 0 0] 24)) (.int .i64 (c.toNat : Int)) (.int .i64 0) (.slice none 0 0)
    rw [show (w.alloc (.cells #[.int .i64 0, .int .i64 0, .slice none 0 0] 24)).heap.size = w.heap.size + 1 by simp] at bx2
    have hb2 : Below w.heap.size w ((w.alloc (.cells #[.int .i64 0, .int .i64 0, .slice none 0 0] 24)).alloc (.cells #[.int .i64 (c.toNat : Int), .int .i64 0, .slice none 0 0] 24)) := ((Below.refl _ _).alloc (Nat.le_refl _) _).alloc (by simp) _
    have hz2 : ((w.alloc (.cells #[.int .i64 0, .int .i64 0, .slice none 0 0] 24)).alloc (.cells #[.int .i64 (c.toNat : Int), .int .i64 0, .slice none 0 0] 24)).heap.size = w.heap.size + 2 := by simp
    by_cases hk : 1 ≤ (c.toNat : Int) ∧ (c.toNat : Int) ≤ 18
    · have hg : getT (d + 1) (c :: r) = if numb c.toNat = true then numG (getT d) (shpL c.toNat).length c.toNat r else finG (getT d) (shpL c.toNat).length c.toNat 0 r := by rw [getT, if_pos hk]
      rw [hg]
      clear hg
      have HK : Hid (1 ≤ (c.toNat : Int) ∧ (c.toNat : Int) ≤ 18) := hk
      have h4 := shpL_len (c.toNat : Int)
      clear hk
      cases tn : numb (c.toNat : Int)
      · rw [if_neg (by decide)]
        obtain ⟨R, hR⟩ : ∃ R, finG (getT d) (shpL (c.toNat : Int)).length (c.toNat : Int) 0 r = R := ⟨_, rfl⟩
        rw [hR]
        have HC : Hid (∀ (W : World), Below w0.heap.size w0 W → Calls Try.prog 60 #[.agg #[.int .i64 (c.toNat : Int), .int .i64 0, .slice none 0 0], .slice (some ⟨b1, o1, none⟩) r.length (cap - 1), .int .i64 ((shpL (c.toNat : Int)).length : Int), .int .i64 (23 - (d : Int) + 1)] W (PostT w0 W R)) :=
          fun W hb => by rw [show (23 : Int) - (d : Int) + 1 = 24 - (d : Int) by omega, ← hR]; exact takeArgs_any d _ h4 H.out _ 0 r _ _ w0 W hs1 hb (by omega) (fun h => by simp at h)
        clear hR
        go_enter Try.func47, Try.ntmps47
        go_wp2_with fail
        refine (binds_yes (c.toNat : Int) _ HK.out).mono ?_
        rintro e w3 ⟨⟨g, rfl, _⟩, hb3⟩
        have bx3 := bx2.below hb3
        have br3 := br2.below hb3
        have hbw3 : Below w.heap.size w w3 := hb2.trans (hb3.mono (by omega))
        obtain ⟨c0, c1, c2, f0, f1, f2⟩ := bx3.facts
        obtain ⟨d0, d1, d2, g0, g1, g2⟩ := br3.facts
        have lx := bx3.lt
        have lr := br3.lt
        clear hb3 bx2 br2 hb2 hz2
        go_wp2_with fail
        refine (hasN_any (c.toNat : Int) _).mono ?_
        rintro e w3 ⟨rfl, rfl⟩
        rw [tn]
        go_wp2_with fail
        refine (HC.out _ (hW.trans (hbw3.mono hz0))).mono ?_
        clear HC
        rintro e w4 ⟨hb4, hr⟩
        have br4 := br3.below hb4
        have hbw4 : Below w.heap.size w w4 := hbw3.trans (hb4.mono hbw3.size)
        obtain ⟨k0, k1, k2, m0, m1, m2⟩ := br4.facts
        rcases R with x | ⟨⟨yk, yn, yf⟩, yr⟩
        · obtain ⟨rfl, hx⟩ := hr
          go_wp2_with fail
          obtain ⟨e0, e1, e2, _, _, _⟩ := (br4.set (.int .i64 0) (.int .i64 0) (.slice none 0 0)).facts
          refine bodyPost_ret (v := .tuple #[.agg #[.int .i64 0, .int .i64 0, .slice none 0 0], .slice none 0 0, .int .i64 x]) (by simp [results, Try.results47, go_sem, e0, e1, e2]) rfl ⟨?_, rfl, hx⟩
          exact ((hbw4.setCell (Nat.le_refl _) _).setCell (Nat.le_refl _) _).setCell (Nat.le_refl _) _
        · obtain ⟨q, cc, p2, cap2, rfl, hsl, hs2, hcap2, hp2⟩ := hr
          have HP2 : Hid (p2 = none → cap2 = 0) := hp2
          clear hp2
          go_wp2_with fail
          obtain ⟨e0, e1, e2, _, _, _⟩ := (br4.set (.int .i64 yk) (.int .i64 yn) (.slice q (len yf) cc)).facts
          refine bodyPost_ret (v := .tuple #[.agg #[.int .i64 yk, .int .i64 yn, .slice q (len yf) cc], .slice p2 yr.length cap2, .int .i64 0]) (by simp [results, Try.results47, go_sem, e0, e1, e2]) rfl ⟨?_, q, cc, p2, cap2, rfl, ?_, hs2, hcap2, HP2.out⟩
          · exact ((hbw4.setCell (Nat.le_refl _) _).setCell (Nat.le_refl _) _).setCell (Nat.le_refl _) _
          · exact (((hsl.setCell (x := ⟨w.heap.size, 0, none⟩) (by show w.heap.size < _; first | omega | (simp [World.setCell]; omega)) _).setCell (x := ⟨w.heap.size, 1, none⟩) (by show w.heap.size < _; first | omega | (simp [World.setCell]; omega)) _).setCell (x := ⟨w.heap.size, 2, none⟩) (by show w.heap.size < _; first | omega | (simp [World.setCell]; omega)) _).mono (by first | omega | (simp [World.setCell]; omega))
      · rw [if_pos rfl]
        cases r with
        | nil =>
          rw [show numG (getT d) (shpL (c.toNat : Int)).length (c.toNat : Int) [] = .error 8 from rfl]
          simp only [List.length_nil, Nat.zero_add] at hcap hsl1 ⊢
          go_enter Try.func47, Try.ntmps47
          go_wp2_with fail
          refine (binds_yes (c.toNat : Int) _ HK.out).mono ?_
          rintro e w3 ⟨⟨g, rfl, _⟩, hb3⟩
          have bx3 := bx2.below hb3
          have br3 := br2.below hb3
          have hbw3 : Below w.heap.size w w3 := hb2.trans (hb3.mono (by omega))
          obtain ⟨c0, c1, c2, f0, f1, f2⟩ := bx3.facts
          obtain ⟨d0, d1, d2, g0, g1, g2⟩ := br3.facts
          have lx := bx3.lt
          have lr := br3.lt
          clear hb3 bx2 br2 hb2 hz2
          go_wp2_with fail
          refine (hasN_any (c.toNat : Int) _).mono ?_
          rintro e w3 ⟨rfl, rfl⟩
          rw [tn]
          go_wp2_with fail
          obtain ⟨e0, e1, e2, _, _, _⟩ := (br3.set (.int .i64 0) (.int .i64 0) (.slice none 0 0)).facts
          refine bodyPost_ret (v := .tuple #[.agg #[.int .i64 0, .int .i64 0, .slice none 0 0], .slice none 0 0, .int .i64 8]) (by simp [results, Try.results47, go_sem, e0, e1, e2]) rfl ⟨?_, rfl, by decide⟩
          exact ((hbw3.setCell (Nat.le_refl _) _).setCell (Nat.le_refl _) _).setCell (Nat.le_refl _) _
        | cons c' r' =>
          rw [show numG (getT d) (shpL (c.toNat : Int)).length (c.toNat : Int) (c' :: r') = finG (getT d) (shpL (c.toNat : Int)).length (c.toNat : Int) (c'.toNat : Int) r' from rfl]
          obtain ⟨b', o', he1, hbl1, hc1', hr1⟩ := hs1.cons
          obtain ⟨rfl, rfl⟩ : b1 = b' ∧ o1 = o' := by simpa using he1
          clear he1
          rw [List.length_cons] at hcap hsl1 ⊢
          obtain ⟨b2, o2, hs2', hsl2⟩ := tail_slice (cap := cap - 1) hr1 (by omega)
          have hcb' := c'.toNat_lt
          have hbl2 : b1 < w.heap.size := by omega
          obtain ⟨R, hR⟩ : ∃ R, finG (getT d) (shpL (c.toNat : Int)).length (c.toNat : Int) (c'.toNat : Int) r' = R := ⟨_, rfl⟩
          rw [hR]
          have HC : Hid (∀ (W : World), Below w0.heap.size w0 W → Calls Try.prog 60 #[.agg #[.int .i64 (c.toNat : Int), .int .i64 (c'.toNat : Int), .slice none 0 0], .slice (some ⟨b2, o2, none⟩) r'.length (cap - 1 - 1), .int .i64 ((shpL (c.toNat : Int)).length : Int), .int .i64 (23 - (d : Int) + 1)] W (PostT w0 W R)) :=
            fun W hb => by rw [show (23 : Int) - (d : Int) + 1 = 24 - (d : Int) by omega, ← hR]; exact takeArgs_any d _ h4 H.out _ (c'.toNat : Int) r' _ _ w0 W hs2' hb (by omega) (fun h => by simp at h)
          clear hR
          go_enter Try.func47, Try.ntmps47
          go_wp2_with fail
          refine (binds_yes (c.toNat : Int) _ HK.out).mono ?_
          rintro e w3 ⟨⟨g, rfl, _⟩, hb3⟩
          have bx3 := bx2.below hb3
          have br3 := br2.below hb3
          have hbw3 : Below w.heap.size w w3 := hb2.trans (hb3.mono (by omega))
          obtain ⟨c0, c1, c2, f0, f1, f2⟩ := bx3.facts
          obtain ⟨d0, d1, d2, g0, g1, g2⟩ := br3.facts
          have hc3 : w3.cell? ⟨b1, o1, none⟩ = some (.int .u8 (c'.toNat : Int)) := below_some (hW.trans (hbw3.mono hz0)) _ _ _ hc1'
          have lx := bx3.lt
          have lr := br3.lt
          clear hb3 bx2 br2 hb2 hz2
          go_wp2_with fail
          refine (hasN_any (c.toNat : Int) _).mono ?_
          rintro e w3 ⟨rfl, rfl⟩
          rw [tn]
          go_wp2_with fail
          go_region
          have hb5 : Below w.heap.size w (w3.drew.setCell ⟨w.heap.size + 1, 1, none⟩ (.int .i64 (c'.toNat : Int))) := (hbw3.drew).setCell (Nat.le_succ _) _
          have br5 : Box (w3.drew.setCell ⟨w.heap.size + 1, 1, none⟩ (.int .i64 (c'.toNat : Int))) w.heap.size (.int .i64 0) (.int .i64 0) (.slice none 0 0) := Box.setOther (w := w3.drew) br3 (by show w.heap.size ≠ w.heap.size + 1; omega) _
          go_wp2_with fail
          refine (HC.out _ (hW.trans (hb5.mono hz0))).mono ?_
          clear HC
          rintro e w4 ⟨hb4, hr⟩
          have br4 := br5.below hb4
          have hbw4 : Below w.heap.size w w4 := hb5.trans (hb4.mono hb5.size)
          obtain ⟨k0, k1, k2, m0, m1, m2⟩ := br4.facts
          rcases R with x | ⟨⟨yk, yn, yf⟩, yr⟩
          · obtain ⟨rfl, hx⟩ := hr
            go_wp2_with fail
            obtain ⟨e0, e1, e2, _, _, _⟩ := (br4.set (.int .i64 0) (.int .i64 0) (.slice none 0 0)).facts
            refine bodyPost_ret (v := .tuple #[.agg #[.int .i64 0, .int .i64 0, .slice none 0 0], .slice none 0 0, .int .i64 x]) (by simp [results, Try.results47, go_sem, e0, e1, e2]) rfl ⟨?_, rfl, hx⟩
            exact ((hbw4.setCell (Nat.le_refl _) _).setCell (Nat.le_refl _) _).setCell (Nat.le_refl _) _
          · obtain ⟨q, cc, p2, cap2, rfl, hsl, hs2, hcap2, hp2⟩ := hr
            have HP2 : Hid (p2 = none → cap2 = 0) := hp2
            clear hp2
            go_wp2_with fail
            obtain ⟨e0, e1, e2, _, _, _⟩ := (br4.set (.int .i64 yk) (.int .i64 yn) (.slice q (len yf) cc)).facts
            refine bodyPost_ret (v := .tuple #[.agg #[.int .i64 yk, .int .i64 yn, .slice q (len yf) cc], .slice p2 yr.length cap2, .int .i64 0]) (by simp [results, Try.results47, go_sem, e0, e1, e2]) rfl ⟨?_, q, cc, p2, cap2, rfl, ?_, hs2, hcap2, HP2.out⟩
            · exact ((hbw4.setCell (Nat.le_refl _) _).setCell (Nat.le_refl _) _).setCell (Nat.le_refl _) _
            · exact (((hsl.setCell (x := ⟨w.heap.size, 0, none⟩) (by show w.heap.size < _; first | omega | (simp [World.setCell]; omega)) _).setCell (x := ⟨w.heap.size, 1, none⟩) (by show w.heap.size < _; first | omega | (simp [World.setCell]; omega)) _).setCell (x := ⟨w.heap.size, 2, none⟩) (by show w.heap.size < _; first | omega | (simp [World.setCell]; omega)) _).mono (by first | omega | (simp [World.setCell]; omega))
    · have hg : getT (d + 1) (c :: r) = .error 1 := by rw [getT, if_neg hk]
      rw [hg]
      clear hg
      have HK : Hid (¬ (1 ≤ (c.toNat : Int) ∧ (c.toNat : Int) ≤ 18)) := hk
      clear hk
      go_enter Try.func47, Try.ntmps47
      go_wp2_with fail
      refine (binds_no (c.toNat : Int) _ HK.out).mono ?_
      rintro e w3 ⟨rfl, rfl⟩
      go_wp2_with fail
      refine bodyPost_ret (v := .tuple #[.agg #[.int .i64 0, .int .i64 0, .slice none 0 0], .slice none 0 0, .int .i64 1]) (by simp [results, Try.results47, go_sem]) rfl ⟨?_, rfl, by decide⟩
      exact hb2
theorem take_all : ∀ d, d ≤ 24 → TakeP d
  | 0, _ => take_zero
  | d + 1, h => take_succ d (by omega) (take_all d (by omega))
end Go.Proofs.Ytcgpjihfligdbaa
