/-
  The document's atoms.
-/
import Derived.Test.YtcgpjihfligdbaaDoorW7
import Derived.Test.YtcgpjihfligdbaaDoorW11m
import Derived.Test.YtcgpjihfligdbaaDoorW14
import Derived.Test.YtcgpjihfligdbaaDoorMem4U
namespace Go.Proofs.YtcgpjihfligdbaaDoor
open Go.RowKit Tmx
set_option maxRecDepth 60000

set_option maxHeartbeats 1000000 in
theorem atomN_any (w : World) (r : Nat) (l wd : List UInt8) (pn pd : Option Addr) (ns ds : List (List UInt8)) (cn cd : Nat) (E : Int) (h : Rd w r l (.slice pd ds.length cd) E) (hn : Strs r w pn ns) (hd : Strs r w pd ds)
    (hU : wd.head? ≠ some 85) (hl : wd.length ≤ 4611686018427387904) (hn1 : ns.length ≤ 1152921504606846976) (hd1 : ds.length ≤ 1152921504606846976) :
    Calls Tryd.prog 81 #[.pointer (some ⟨r, 0, none⟩), .string ⟨wd.toArray⟩, .slice pn ns.length cn] w fun x w' => (∃ v, x = .returned v ∧ Tm w.heap.size w' v (atomN ns ds wd E).1) ∧ Rd w' r l (.slice pd ds.length cd) (atomN ns ds wd E).2 ∧ Kept r w w' := by
  have hr0 := h.lt
  have hrz : r ≠ w.heap.size := by omega
  have bx0 := Box.new w (.int .i64 0) (.int .i64 0) (.slice none 0 0)
  have k0 := Kept.alloc r w (.cells #[.int .i64 0, .int .i64 0, .slice none 0 0] 24)
  have rd0 : Rd (w.alloc (.cells #[.int .i64 0, .int .i64 0, .slice none 0 0] 24)) r l (.slice pd ds.length cd) E := h.below ((Below.refl _ _).alloc (Nat.le_refl _) _)
  by_cases hw0 : wd = []
  · subst hw0
    have HA : Hid (atomN ns ds [] E = ((0, 0, .nil), failE E 7)) := by
      unfold atomN
      rw [if_neg (by decide), if_pos (by decide)]
      rfl
    have hk0 : Tmx.kindOf [] = 0 := by decide
    have hn0 : nameB [] = false := by decide
    go_enter Tryd.func81, Tryd.ntmps81
    go_wp2_with fail
    refine (kindOf_any [] _).mono ?_
    rintro e w1 ⟨rfl, hb1⟩
    rw [hk0]
    go_wp2_with fail
    refine (name_any [] _ (by simp)).mono ?_
    rintro e w2 ⟨rfl, hb2⟩
    rw [hn0]
    go_wp2_with fail
    refine (fail_any w2 r l _ E 7 ((rd0.below hb1).below hb2)).mono ?_
    rintro e w3 ⟨rfl, hr3, hk3⟩
    have bx3 := hk3.box (fun e => hrz e.symm) ((bx0.below hb1).below hb2)
    have kk := ((k0.trans (.of_below hb1)).trans (.of_below hb2)).trans hk3
    obtain ⟨c0, c1, c2, f0, f1, f2⟩ := bx3.facts
    clear hk0 hn0
    go_wp2_with fail
    obtain ⟨d0, d1, d2, _, _, _⟩ := (bx3.set (.int .i64 0) (.int .i64 0) (.slice none 0 0)).facts
    refine bodyPost_ret (v := .agg #[.int .i64 0, .int .i64 0, .slice none 0 0]) (by simp [results, Tryd.results81, go_sem, d0, d1, d2]) rfl ⟨⟨_, rfl, none, 0, by rw [HA.out]; rfl, by rw [HA.out]; exact SlF.nil _ _ _⟩, ?_, ?_⟩
    · rw [HA.out]
      exact hr3.of_block (by rw [Below.heap_setCell _ _ _ _ hrz, Below.heap_setCell _ _ _ _ hrz, Below.heap_setCell _ _ _ _ hrz])
    · exact ((kk.setNew (Nat.le_refl _) _).setNew (Nat.le_refl _) _).setNew (Nat.le_refl _) _
  · have hlen : 0 < wd.length := List.length_pos_iff.2 hw0
    obtain ⟨c, hcc⟩ : ∃ c, wd[0] = c := ⟨_, rfl⟩
    have hc : c ≠ 85 := by
      rintro rfl
      exact hU (by rw [List.head?_eq_getElem?, List.getElem?_eq_getElem hlen, hcc])
    have hb : ((c.toNat : Int) == 85) = false := by
      rw [beq_eq_false_iff_ne]
      intro e
      exact hc (UInt8.toNat_inj.1 (by show c.toNat = 85; omega))
    have hby : ({ data := wd.toArray } : ByteArray)[0]'(by simpa [ByteArray.size] using hlen) = c := hcc
    clear hcc hU hc hw0
    go_enter Tryd.func81, Tryd.ntmps81
    go_wp2_with fail
    clear hby hb
    refine (kindOf_any wd _).mono ?_
    rintro e w1 ⟨rfl, hb1⟩
    have rd1 := rd0.below hb1
    have bx1 := bx0.below hb1
    have k1 := k0.trans (.of_below hb1 (r := r))
    clear rd0 bx0 k0 hb1
    by_cases hK : 0 < Tmx.kindOf wd
    · have tK : decide ((0 : Int) < Tmx.kindOf wd) = true := by simpa using hK
      by_cases hS : shpL (Tmx.kindOf wd) = []
      · have HA : Hid (atomN ns ds wd E = ((Tmx.kindOf wd, 0, .nil), E)) := by unfold atomN; rw [if_pos hK, if_pos hS]; rfl
        go_wp2_with fail
        refine (shape_any (Tmx.kindOf wd) _).mono ?_
        rintro e w2 ⟨rfl, hb2⟩
        rw [show shp (Tmx.kindOf wd) = ⟨([] : List UInt8).toArray⟩ by unfold shp; rw [hS]]
        have bx2 := bx1.below hb2
        have rd2 := rd1.below hb2
        have kk := k1.trans (.of_below hb2 (r := r))
        obtain ⟨c0, c1, c2, f0, f1, f2⟩ := bx2.facts
        clear hS
        go_wp2_with fail
        obtain ⟨d0, d1, d2, _, _, _⟩ := (bx2.set (.int .i64 (Tmx.kindOf wd)) (.int .i64 0) (.slice none 0 0)).facts
        refine bodyPost_ret (v := .agg #[.int .i64 (Tmx.kindOf wd), .int .i64 0, .slice none 0 0]) (by simp [results, Tryd.results81, go_sem, d0, d1, d2]) rfl ⟨⟨_, rfl, none, 0, by rw [HA.out]; rfl, by rw [HA.out]; exact SlF.nil _ _ _⟩, ?_, ?_⟩
        · rw [HA.out]
          exact rd2.of_block (by rw [Below.heap_setCell _ _ _ _ hrz, Below.heap_setCell _ _ _ _ hrz, Below.heap_setCell _ _ _ _ hrz])
        · exact ((kk.setNew (Nat.le_refl _) _).setNew (Nat.le_refl _) _).setNew (Nat.le_refl _) _
      · have HA : Hid (atomN ns ds wd E = ((0, 0, .nil), failE E 2)) := by unfold atomN; rw [if_pos hK, if_neg hS]; rfl
        have tS : (shpL (Tmx.kindOf wd) == []) = false := by simpa using hS
        go_wp2_with fail
        refine (shape_any (Tmx.kindOf wd) _).mono ?_
        rintro e w2 ⟨rfl, hb2⟩
        rw [show shp (Tmx.kindOf wd) = ⟨(shpL (Tmx.kindOf wd)).toArray⟩ from rfl]
        have bx2 := bx1.below hb2
        have rd2 := rd1.below hb2
        clear hS
        go_wp2_with fail
        refine (fail_any w2 r l _ E 2 rd2).mono ?_
        rintro e w3 ⟨rfl, hr3, hk3⟩
        have bx3 := hk3.box (fun e => hrz e.symm) bx2
        have kk := (k1.trans (.of_below hb2 (r := r))).trans hk3
        obtain ⟨c0, c1, c2, f0, f1, f2⟩ := bx3.facts
        go_wp2_with fail
        obtain ⟨d0, d1, d2, _, _, _⟩ := (bx3.set (.int .i64 0) (.int .i64 0) (.slice none 0 0)).facts
        refine bodyPost_ret (v := .agg #[.int .i64 0, .int .i64 0, .slice none 0 0]) (by simp [results, Tryd.results81, go_sem, d0, d1, d2]) rfl ⟨⟨_, rfl, none, 0, by rw [HA.out]; rfl, by rw [HA.out]; exact SlF.nil _ _ _⟩, ?_, ?_⟩
        · rw [HA.out]
          exact hr3.of_block (by rw [Below.heap_setCell _ _ _ _ hrz, Below.heap_setCell _ _ _ _ hrz, Below.heap_setCell _ _ _ _ hrz])
        · exact ((kk.setNew (Nat.le_refl _) _).setNew (Nat.le_refl _) _).setNew (Nat.le_refl _) _
    · have tK : decide ((0 : Int) < Tmx.kindOf wd) = false := by simpa using hK
      go_wp2_with fail
      refine (name_any wd _ hl).mono ?_
      rintro e w2 ⟨rfl, hb2⟩
      have bx2 := bx1.below hb2
      have rd2 := rd1.below hb2
      have k2 := k1.trans (.of_below hb2 (r := r))
      clear rd1 bx1 k1 hb2
      cases hN : nameB wd
      · have HA : Hid (atomN ns ds wd E = ((0, 0, .nil), failE E 7)) := by unfold atomN; rw [if_neg (by omega), if_pos hN]; rfl
        go_wp2_with fail
        refine (fail_any w2 r l _ E 7 rd2).mono ?_
        rintro e w3 ⟨rfl, hr3, hk3⟩
        have bx3 := hk3.box (fun e => hrz e.symm) bx2
        have kk := k2.trans hk3
        obtain ⟨c0, c1, c2, f0, f1, f2⟩ := bx3.facts
        go_wp2_with fail
        obtain ⟨d0, d1, d2, _, _, _⟩ := (bx3.set (.int .i64 0) (.int .i64 0) (.slice none 0 0)).facts
        refine bodyPost_ret (v := .agg #[.int .i64 0, .int .i64 0, .slice none 0 0]) (by simp [results, Tryd.results81, go_sem, d0, d1, d2]) rfl ⟨⟨_, rfl, none, 0, by rw [HA.out]; rfl, by rw [HA.out]; exact SlF.nil _ _ _⟩, ?_, ?_⟩
        · rw [HA.out]
          exact hr3.of_block (by rw [Below.heap_setCell _ _ _ _ hrz, Below.heap_setCell _ _ _ _ hrz, Below.heap_setCell _ _ _ _ hrz])
        · exact ((kk.setNew (Nat.le_refl _) _).setNew (Nat.le_refl _) _).setNew (Nat.le_refl _) _
      · have HA : Hid (atomN ns ds wd E = atomV ns ds wd E) := by unfold atomN; rw [if_neg (by omega), if_neg (by rw [hN]; decide)]; rfl
        have hn2 := hn.kept k2
        have hd2 := hd.kept k2
        clear hK
        obtain ⟨c0, c1, c2, f0, f1, f2⟩ := bx2.facts
        obtain ⟨r0, r1, r2, g0, g1, g2⟩ := rd2.facts
        obtain ⟨V, hV⟩ : ∃ V, fl ns wd ns.length = V := ⟨_, rfl⟩
        have HV : Hid (fl ns wd ns.length = V) := hV
        clear hV
        go_wp2_with fail
        go_loopg [10] ns.length (fun g i wr => g ≤ ns.length ∧ i = .int .i64 ((g : Int) - 1) ∧ Hid (fl ns wd g = V) ∧ wr = w2)
        case atStart => exact ⟨Nat.le_refl _, rfl, HV, rfl⟩
        case round =>
          obtain ⟨hg, rfl, hv, rfl⟩ := hrel
          cases gk with
          | zero =>
            have hVn : V = none := by have := hv.out; rw [fl] at this; exact this.symm
            have HA2 : Hid (atomN ns ds wd E = atomD ds wd E) := by
              rw [HA.out]
              unfold atomV
              rw [HV.out, hVn]
              rfl
            clear hVn
            obtain ⟨V2, hV2⟩ : ∃ V2, fl ds wd ds.length = V2 := ⟨_, rfl⟩
            have HV2 : Hid (fl ds wd ds.length = V2) := hV2
            clear hV2
            go_wp2_with fail
            go_loopg [11] ds.length (fun g i wr' => g ≤ ds.length ∧ i = .int .i64 ((g : Int) - 1) ∧ Hid (fl ds wd g = V2) ∧ wr' = wr)
            case atStart => exact ⟨Nat.le_refl _, rfl, HV2, rfl⟩
            case round =>
              obtain ⟨hg2, rfl, hv2, rfl⟩ := hrel
              cases gk with
              | zero =>
                have HA3 : Hid (atomN ns ds wd E = ((0, 0, .nil), failE E 6)) := by
                  rw [HA2.out]
                  unfold atomD
                  have := hv2.out
                  rw [fl] at this
                  rw [HV2.out, ← this]
                  rfl
                go_wp2_with fail
                refine (fail_any _ r l _ E 6 rd2).mono ?_
                rintro e w3 ⟨rfl, hr3, hk3⟩
                have bx3 := hk3.box (fun e => hrz e.symm) bx2
                have kk := k2.trans hk3
                clear c0 c1 c2 f0 f1 f2
                obtain ⟨c0, c1, c2, f0, f1, f2⟩ := bx3.facts
                go_wp2_with fail
                obtain ⟨d0, d1, d2, _, _, _⟩ := (bx3.set (.int .i64 0) (.int .i64 0) (.slice none 0 0)).facts
                refine bodyPost_ret (v := .agg #[.int .i64 0, .int .i64 0, .slice none 0 0]) (by simp [results, Tryd.results81, go_sem, d0, d1, d2]) rfl ⟨⟨_, rfl, none, 0, by rw [HA3.out]; rfl, by rw [HA3.out]; exact SlF.nil _ _ _⟩, ?_, ?_⟩
                · rw [HA3.out]
                  exact hr3.of_block (by rw [Below.heap_setCell _ _ _ _ hrz, Below.heap_setCell _ _ _ _ hrz, Below.heap_setCell _ _ _ _ hrz])
                · exact ((kk.setNew (Nat.le_refl _) _).setNew (Nat.le_refl _) _).setNew (Nat.le_refl _) _
              | succ n =>
                obtain ⟨b, o, rfl, hbr, cb⟩ := hd2.at (i := n) (by omega)
                rw [show ((n + 1 : Nat) : Int) - 1 = (n : Int) by omega]
                cases tn : (ds[n]?.getD [] == wd)
                · have HN : Hid (fl ds wd n = V2) := fl_no hv2.out (by rw [List.getD_eq_getElem?_getD]; exact tn)
                  go_wp2_with fail
                  go_roundg n
                  case measure => omega
                  case rel => exact ⟨by omega, rfl, HN, rfl⟩
                · have hy := fl_yes hv2.out (by rw [List.getD_eq_getElem?_getD]; exact tn)
                  have HA3 : Hid (atomN ns ds wd E = ((18, (n : Int), .nil), E)) := by
                    rw [HA2.out]
                    unfold atomD
                    rw [HV2.out, hy]
                    rfl
                  clear hy
                  go_wp2_with fail
                  obtain ⟨d0, d1, d2, _, _, _⟩ := (bx2.set (.int .i64 18) (.int .i64 (n : Int)) (.slice none 0 0)).facts
                  refine bodyPost_ret (v := .agg #[.int .i64 18, .int .i64 (n : Int), .slice none 0 0]) (by simp [results, Tryd.results81, go_sem, d0, d1, d2]) rfl ⟨⟨_, rfl, none, 0, by rw [HA3.out]; rfl, by rw [HA3.out]; exact SlF.nil _ _ _⟩, ?_, ?_⟩
                  · rw [HA3.out]
                    exact rd2.of_block (by rw [Below.heap_setCell _ _ _ _ hrz, Below.heap_setCell _ _ _ _ hrz, Below.heap_setCell _ _ _ _ hrz])
                  · exact ((k2.setNew (Nat.le_refl _) _).setNew (Nat.le_refl _) _).setNew (Nat.le_refl _) _
          | succ n =>
            obtain ⟨b, o, rfl, hbr, cb⟩ := hn2.at (i := n) (by omega)
            rw [show ((n + 1 : Nat) : Int) - 1 = (n : Int) by omega]
            cases tn : (ns[n]?.getD [] == wd)
            · have HN : Hid (fl ns wd n = V) := fl_no hv.out (by rw [List.getD_eq_getElem?_getD]; exact tn)
              go_wp2_with fail
              go_roundg n
              case measure => omega
              case rel => exact ⟨by omega, rfl, HN, rfl⟩
            · have hy := fl_yes hv.out (by rw [List.getD_eq_getElem?_getD]; exact tn)
              have HA3 : Hid (atomN ns ds wd E = ((1, (ns.length : Int) - 1 - n, .nil), E)) := by
                rw [HA.out]
                unfold atomV
                rw [HV.out, hy]
                rfl
              clear hy
              go_wp2_with fail
              obtain ⟨d0, d1, d2, _, _, _⟩ := (bx2.set (.int .i64 1) (.int .i64 ((ns.length : Int) - 1 - n)) (.slice none 0 0)).facts
              refine bodyPost_ret (v := .agg #[.int .i64 1, .int .i64 ((ns.length : Int) - 1 - n), .slice none 0 0]) (by simp [results, Tryd.results81, go_sem, d0, d1, d2]) rfl ⟨⟨_, rfl, none, 0, by rw [HA3.out]; rfl, by rw [HA3.out]; exact SlF.nil _ _ _⟩, ?_, ?_⟩
              · rw [HA3.out]
                exact rd2.of_block (by rw [Below.heap_setCell _ _ _ _ hrz, Below.heap_setCell _ _ _ _ hrz, Below.heap_setCell _ _ _ _ hrz])
              · exact ((k2.setNew (Nat.le_refl _) _).setNew (Nat.le_refl _) _).setNew (Nat.le_refl _) _
end Go.Proofs.YtcgpjihfligdbaaDoor
