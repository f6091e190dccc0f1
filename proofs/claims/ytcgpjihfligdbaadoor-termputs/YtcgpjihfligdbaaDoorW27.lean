/-
  swap: the two that were bound last change places; all lists are new.
-/
import Derived.Test.YtcgpjihfligdbaaDoorW5
import Derived.Test.YtcgpjihfligdbaaDoorW16
import Derived.Test.YtcgpjihfligdbaaDoorPlain9
import Derived.Deep.RegionHeld3
import Derived.Deep.RegionLaw
namespace Go.Proofs.YtcgpjihfligdbaaDoor
open Go.RowKit Tmx
set_option maxRecDepth 60000

/-- What is there behind a term that is swapped, and behind its being appended. -/
theorem stepS {wr W w1 : World} {lo : Nat} {pv p5 : Option Addr} {cv c5 : Nat} {A : F} {x : Int × Int × F} (hW : Below wr.heap.size wr W) (hA : ArgsIn lo wr (.slice pv (len A) cv) A)
    (hsl : SlF W.heap.size w1 p5 x.2.2) (hk : Below W.heap.size W w1) (hlen : len A ≤ 4) (hlo : lo ≤ wr.heap.size) :
    ∃ g6 cap6 w11, (Builtin.append_ #[22, 22] 22 #[.slice pv (len A) cv, .slice (some ⟨w1.heap.size, 0, none⟩) 1 1]).run Tryd.prog (w1.alloc (.cells #[.int .i64 x.1, .int .i64 x.2.1, .slice p5 (len x.2.2) c5] 24)) = .ok (.slice (some ⟨g6, 0, none⟩) (len A + 1) cap6) w11 ∧
      ArgsIn lo w11 (.slice (some ⟨g6, 0, none⟩) (len A + 1) cap6) (snoc A x) ∧ Below lo wr w11 := by
  have hz := hk.size
  have hzw := hW.size
  have hown : ∀ k, (Value.slice pv (len A) cv).ownBlock = some k → lo ≤ k ∧ k < wr.heap.size := by
    obtain ⟨xs, ho, _⟩ := hA
    exact ho.lt
  have hA10 : ArgsIn lo w1 (.slice pv (len A) cv) A := hA.along fun b hb hb2 => by rw [hk.block b (by omega), hW.block b hb2]
  have hA11 : ArgsIn lo (w1.alloc (.cells #[.int .i64 x.1, .int .i64 x.2.1, .slice p5 (len x.2.2) c5] 24)) (.slice pv (len A) cv) A := hA10.along fun b _ hb2 => Below.heap_alloc _ _ _ hb2
  have hL : SlQ (fun b => lo ≤ b ∧ (Value.slice pv (len A) cv).ownBlock ≠ some b) (w1.alloc (.cells #[.int .i64 x.1, .int .i64 x.2.1, .slice p5 (len x.2.2) c5] 24)) p5 x.2.2 := by
    refine hsl.toQ.along fun b o v hb hv => ?_
    have h1 : W.heap.size ≤ b := hb
    have h2 : lo ≤ b := by omega
    refine ⟨⟨h2, fun he => ?_⟩, ?_⟩
    · have h3 := (hown b he).2
      omega
    · rw [World.cell?_of_block (w := w1) (Below.heap_alloc _ _ _ (World.block_lt_of_cell? w1 ⟨b, o, none⟩ hv))]
      exact hv
  obtain ⟨g6, cap6, w11, hr, hA6, hg, hat, hlt⟩ := append_term _ lo (.slice pv (len A) cv) A hA11 w1.heap.size 1 x.1 x.2.1 p5 c5 x.2.2 (heap_alloc_new _ _) hL (by omega) (by simp; omega) 22
  obtain ⟨xs, ho, _⟩ := hA11
  have hbk : ∀ b, b < lo → w11.heap[b]? = w1.heap[b]? := fun b hb => by
    rw [grown_block ho hg hb (by simp; omega)]
    exact Below.heap_alloc _ _ _ (by omega)
  have hz11 : w1.heap.size + 1 ≤ w11.heap.size := by have := hg.size; simp at this; omega
  refine ⟨g6, cap6, w11, hr, hA6, (hg.os.trans hk.os).trans hW.os, (hg.tape.trans hk.tape).trans hW.tape, (hg.output.trans hk.output).trans hW.output, by omega, fun b hb => ?_⟩
  rw [hbk b hb, hk.block b (by omega), hW.block b (by omega)]

set_option maxHeartbeats 1000000 in
theorem swap_any (m : Nat) : ∀ (f : F) (k n within : Int) (q : Option Addr) (cap : Nat) (w : World), size f < m → 1 ≤ k → k ≤ 18 → len f = (shpL k).length → okF f → 0 ≤ within → within + 2 * size f ≤ 1152921504606846976 → Sl w q f →
    Calls Tryd.prog 17 #[.agg #[.int .i64 k, .int .i64 n, .slice q (len f) cap], .int .i64 within] w fun e w' => (∃ v, e = .returned v ∧ Tm w.heap.size w' v (mapT swapG k n f within)) ∧ Below w.heap.size w w' := by
  induction m with
  | zero => intro f k n within q cap w h; omega
  | succ m ih =>
    intro f k n within q cap w hm g2a g2b hlen hok h0 hw hs
    have H := (show Hid _ from ih)
    clear ih
    by_cases hk : k = 1
    · have hf : f = .nil := by
        rw [hk, shp_one] at hlen
        exact size_nil_of_len f hlen
      subst hf
      subst hk
      clear H hlen hok g2a g2b hm hs
      by_cases h1 : n = within
      · have t1 : (n == within) = true := by simpa using h1
        have MT : Hid (mapT swapG 1 n .nil within = (1, within + 1, .nil)) := by show mapT swapG 1 n .nil within = _; rw [mapT_one]; unfold swapG; rw [if_pos h1]
        go_enter Tryd.func17, Tryd.ntmps17
        go_wp2_with fail
        refine bodyPost_ret (v := .agg #[.int .i64 1, .int .i64 (within + 1), .slice q 0 cap]) (by simp [results, Tryd.results17, go_sem, len]) rfl ⟨⟨_, rfl, q, cap, by rw [MT.out]; rfl, by rw [MT.out]; exact SlF.nil _ _ _⟩, ((Below.refl _ _).alloc (Nat.le_refl _) _).alloc (by simp) _⟩
      · by_cases h2 : n = within + 1
        · have t1 : (n == within) = false := by simpa using h1
          have t2 : (n == within + 1) = true := by simpa using h2
          have MT : Hid (mapT swapG 1 n .nil within = (1, within, .nil)) := by show mapT swapG 1 n .nil within = _; rw [mapT_one]; unfold swapG; rw [if_neg h1, if_pos h2]
          go_enter Tryd.func17, Tryd.ntmps17
          go_wp2_with fail
          refine bodyPost_ret (v := .agg #[.int .i64 1, .int .i64 within, .slice q 0 cap]) (by simp [results, Tryd.results17, go_sem, len]) rfl ⟨⟨_, rfl, q, cap, by rw [MT.out]; rfl, by rw [MT.out]; exact SlF.nil _ _ _⟩, ((Below.refl _ _).alloc (Nat.le_refl _) _).alloc (by simp) _⟩
        · have t1 : (n == within) = false := by simpa using h1
          have t2 : (n == within + 1) = false := by simpa using h2
          have MT : Hid (mapT swapG 1 n .nil within = (1, n, .nil)) := by show mapT swapG 1 n .nil within = _; rw [mapT_one]; unfold swapG; rw [if_neg h1, if_neg h2]
          go_enter Tryd.func17, Tryd.ntmps17
          go_wp2_with fail
          refine bodyPost_ret (v := .agg #[.int .i64 1, .int .i64 n, .slice q 0 cap]) (by simp [results, Tryd.results17, go_sem, len]) rfl ⟨⟨_, rfl, q, cap, by rw [MT.out]; rfl, by rw [MT.out]; exact SlF.nil _ _ _⟩, ((Below.refl _ _).alloc (Nat.le_refl _) _).alloc (by simp) _⟩
    · have tk : (k == 1) = false := by simpa using hk
      have MT : Hid (mapT swapG k n f within = (k, n, mapF swapG f within k 0)) := by unfold mapT; rw [if_neg hk]; rfl
      have EL : Hid (len f = (shpL k).length) := hlen
      have OK : Hid (okF f) := hok
      have el4 := shpL_len k
      have el3 : len f ≤ (shp k).size ∧ (shp k).size ≤ len f := by simp [shp, ByteArray.size, hlen]
      have el5 : len f ≤ 4 := by omega
      clear hk hlen hok el4
      go_enter Tryd.func17, Tryd.ntmps17
      go_wp2_with fail
      refine (shape_any k _).mono ?_
      rintro e w1 ⟨rfl, hb1⟩
      have bt1 := ((Box.new w (.int .i64 k) (.int .i64 n) (.slice q (len f) cap)).alloc (.cells #[.int .i64 0, .int .i64 0, .slice none 0 0] 24)).below hb1
      have br1 := (Box.new (w.alloc (.cells #[.int .i64 k, .int .i64 n, .slice q (len f) cap] 24)) (.int .i64 0) (.int .i64 0) (.slice none 0 0)).below hb1
      rw [World.size_alloc] at br1
      have hB1 : Below w.heap.size w w1 := (((Below.refl _ _).alloc (Nat.le_refl _) _).alloc (by simp) _).trans (hb1.mono (by simp; omega))
      have lr1 := br1.lt
      clear hb1
      obtain ⟨x0, x1, x2, y0, y1, y2⟩ := bt1.facts
      go_wp2_with fail
      go_loopw [6, 33] (fun av i wr => ∃ (j : Nat) (A : F) (pv : Option Addr) (cv : Nat), j ≤ len f ∧ len A = j ∧ A = takeF j (mapF swapG f within k 0) ∧ i = .int .i64 j ∧ av = .slice pv (len A) cv ∧ ArgsIn (w.heap.size + 2) wr (.slice pv (len A) cv) A ∧
          Below w.heap.size w wr ∧ Box wr w.heap.size (.int .i64 k) (.int .i64 n) (.slice q (len f) cap) ∧ Box wr (w.heap.size + 1) (.int .i64 0) (.int .i64 0) (.slice none 0 0)) (fun _ i _ => len f - (intOf i).toNat)
      case atStart => exact ⟨0, .nil, none, 0, Nat.zero_le _, rfl, rfl, rfl, rfl, ArgsIn.nil _ _, hB1, bt1, br1⟩
      case round =>
        clear x0 x1 x2 y0 y1 y2 bt1 br1 hB1 lr1
        obtain ⟨j, A, pv, cv, hj, hlA, hA, rfl, rfl, hAI, hb, bt, br⟩ := hrel
        have HA : Hid (A = takeF j (mapF swapG f within k 0)) := hA
        have HL : Hid (len A = j) := hlA
        have hl4 : len A ≤ 4 := by omega
        clear hlA
        have lr := br.lt
        by_cases hlt : j < len f
        · obtain ⟨b, o, k', n', p, cap', x, y, l, r, rfl, e, hbl, c1, c2, c3, hsl⟩ := hs.at hb hlt
          have hz := size_drop j f
          rw [e, size] at hz
          have hoj := okF_drop j f OK.out
          rw [e, okF] at hoj
          obtain ⟨⟨ok1, ok2⟩, ok3, ok4, _⟩ := hoj
          have OL : Hid (len l = (shpL k').length) := ok3
          have OJ : Hid (okF l) := ok4
          have ed : Hid (drop j (mapF swapG f within k 0) = .node 0 0 ((mapT swapG k' n' l (within + bindsAt k j)).1, (mapT swapG k' n' l (within + bindsAt k j)).2.1) (mapT swapG k' n' l (within + bindsAt k j)).2.2 (mapF swapG r within k (j + 1))) := by
            show _ = _
            rw [drop_mapF, e, mapF_node]
            simp
          obtain ⟨X, hX⟩ : ∃ X, mapT swapG k' n' l (within + bindsAt k j) = X := ⟨_, rfl⟩
          have HX : Hid (mapT swapG k' n' l (within + bindsAt k j) = X) := hX
          clear hA e ok3 ok4 hX
          have hlt2 : (j : Int) < ((shp k).size : Int) := by omega
          have hlt3 : j < (shp k).size := by omega
          have hbb := bindsAt_bd k j
          obtain ⟨x0, x1, x2, _, _, _⟩ := bt.facts
          have HC : Hid (Calls Tryd.prog 17 #[.agg #[.int .i64 k', .int .i64 n', .slice p (len l) cap'], .int .i64 (IntKind.i64.wrap (within + IntKind.i64.wrap (IntKind.u8.wrap (((shp k)[j]).toNat - 48))))] (wr.alloc (.cells #[.int .i64 k', .int .i64 n', .slice p (len l) cap'] 24)).drew fun e w' => (∃ v, e = .returned v ∧ Tm (wr.alloc (.cells #[.int .i64 k', .int .i64 n', .slice p (len l) cap'] 24)).drew.heap.size w' v X) ∧ Below (wr.alloc (.cells #[.int .i64 k', .int .i64 n', .slice p (len l) cap'] 24)).drew.heap.size (wr.alloc (.cells #[.int .i64 k', .int .i64 n', .slice p (len l) cap'] 24)).drew w') := by
            show Calls _ _ _ _ _
            rw [← HX.out, bound_at k within j hlt3 g2a g2b h0 (by omega)]
            exact H.out l k' n' (within + bindsAt k j) p cap' _ (by omega) ok1 ok2 OL.out OJ.out (by omega) (by omega) (hsl.below ((Below.refl _ _).alloc (Nat.le_refl _) _).drew)
          have hWr : Below wr.heap.size wr (wr.alloc (.cells #[.int .i64 k', .int .i64 n', .slice p (len l) cap'] 24)) := (Below.refl _ _).alloc (Nat.le_refl _) _
          go_wp2_with fail
          go_region_law (first
              | (refine step_append_run rfl _ _ 22 rfl _ _ _ rfl rfl hr6 ?_)
              | (go_simp; go_at_call 17; refine HC.out.mono ?_; rintro e w10 ⟨⟨v, rfl, p5, c5, rfl, hsl5⟩, hk10⟩; obtain ⟨g6, cap6, w11, hr6, hA6, hb6⟩ := stepS (c5 := c5) (x := X) hWr hAI hsl5 (undrew hk10) hl4 (by omega)))
          all_goals
            have hl11 := len_snoc A X
            have F1 : Hid (Below w.heap.size w w11) := hb.trans (hb6.mono (by omega))
            have F2 : Hid (Box w11 w.heap.size (.int .i64 k) (.int .i64 n) (.slice (some ⟨b, o, none⟩) (len f) cap)) := bt.of_block (hb6.block _ (by omega))
            have F3 : Hid (Box w11 (w.heap.size + 1) (.int .i64 0) (.int .i64 0) (.slice none 0 0)) := br.of_block (hb6.block _ (by omega))
            have F4 : Hid (ArgsIn (w.heap.size + 2) w11 (.slice (some ⟨g6, 0, none⟩) (len (snoc A X)) cap6) (snoc A X)) := by show ArgsIn _ _ _ _; rw [hl11]; exact hA6
            have F5 : Hid (snoc A X = takeF (j + 1) (mapF swapG f within k 0)) := by
              show snoc A X = _
              rw [takeF_snoc j _ ed.out, ← HA.out, ← HX.out]
            have F6 : Hid (len (snoc A X) = j + 1) := by show _ = _; rw [hl11, HL.out]
            clear hl11 hr6 hA6 hb6 hsl5 hk10 x0 x1 x2 c1 c2 c3
            go_wp2_with fail
            go_roundw
            case rel => exact ⟨j + 1, snoc A X, some ⟨g6, 0, none⟩, cap6, hlt, F6.out, F5.out, by go_num, by rw [len_snoc], F4.out, F1.out, F2.out, F3.out⟩
            case measure => simp [intOf]; omega
        · obtain rfl : j = len f := by omega
          have eA : A = mapF swapG f within k 0 := by
            have := HA.out
            rw [show len f = len (mapF swapG f within k 0) by rw [len_mapF], takeF_len] at this
            exact this
          have EA : Hid (A = mapF swapG f within k 0) := eA
          clear eA hA
          obtain ⟨x0, x1, x2, f0, f1, f2⟩ := bt.facts
          obtain ⟨y0, y1, y2, g0, g1, g2⟩ := br.facts
          obtain ⟨z0, z1, z2, _, _, _⟩ := (bt.set2 (.slice pv (len A) cv)).facts
          obtain ⟨u0, u1, u2, v0, v1, v2⟩ := (br.setOther (x := ⟨w.heap.size, 2, none⟩) (by show w.heap.size + 1 ≠ w.heap.size; omega) (.slice pv (len A) cv)).facts
          go_wp2_with fail
          have bs := ((br.setOther (x := ⟨w.heap.size, 2, none⟩) (by show w.heap.size + 1 ≠ w.heap.size; omega) (.slice pv (len A) cv)).set (.int .i64 k) (.int .i64 n) (.slice pv (len A) cv)).facts
          obtain ⟨d0, d1, d2, _, _, _⟩ := bs
          have hall := hAI.slF
          refine bodyPost_ret (v := .agg #[.int .i64 k, .int .i64 n, .slice pv (len A) cv]) (by simp [results, Tryd.results17, go_sem, d0, d1, d2]) rfl ⟨⟨_, rfl, pv, cv, by rw [MT.out, EA.out], ?_⟩, ?_⟩
          · rw [MT.out, ← EA.out]
            exact ((((hall.setCell (by show w.heap.size < _; omega) _).setCell (by show w.heap.size + 1 < _; omega) _).setCell (by show w.heap.size + 1 < _; omega) _).setCell (by show w.heap.size + 1 < _; omega) _).mono (by omega)
          · exact (((hb.setCell (by simp) _).setCell (by simp) _).setCell (by simp) _).setCell (by simp) _
end Go.Proofs.YtcgpjihfligdbaaDoor
