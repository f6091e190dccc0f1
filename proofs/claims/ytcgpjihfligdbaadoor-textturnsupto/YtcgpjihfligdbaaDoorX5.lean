/-
  The program's reader: a number behind U; a name.
-/
import Derived.Test.YtcgpjihfligdbaaDoorX4
import Derived.Test.YtcgpjihfligdbaaDoorPlainSm
import Derived.Test.YtcgpjihfligdbaaDoorW15U
import Derived.Lib.AtoiAllCases
import Derived.Deep.RegionWith
namespace Go.Proofs.YtcgpjihfligdbaaDoor
open Go.RowKit Tmx
set_option maxRecDepth 60000

/-- A term without arguments, and an error, as they are answered. -/
def leafV (x : (Int × Int × F) × Int) : Value := .tuple #[.agg #[.int .i64 x.1.1, .int .i64 x.1.2.1, .slice none 0 0], .int .i64 x.2]

set_option maxRecDepth 60000 in
set_option maxHeartbeats 2000000 in
theorem universe_any (w : World) (r : Nat) (t : List UInt8) (hv : Vs r w) (hl : t.length ≤ 1500) :
    Calls Tryd.prog 78 #[.string ⟨t.toArray⟩] w fun e w' => e = .returned (leafV (atomU (85 :: t) 0)) ∧ Below w.heap.size w w' := by
  have bx0 := Box.new w (.int .i64 0) (.int .i64 0) (.slice none 0 0)
  have hb0 : Below w.heap.size w (w.alloc (.cells #[.int .i64 0, .int .i64 0, .slice none 0 0] 24)) := (Below.refl _ _).alloc (Nat.le_refl _) _
  have hv0 := hv.below hb0
  have hsz : ({ data := t.toArray } : ByteArray).size = t.length := by simp [ByteArray.size]
  have hdt : ({ data := t.toArray } : ByteArray).data.toList = t := by simp
  by_cases hok : ∃ n, Lib.atoiAll t = .ok n
  · obtain ⟨n, ha⟩ := hok
    have hnb := Lib.atoiAll_bounds ha
    have HT : Hid (Calls Tryd.prog 96 #[.string ⟨t.toArray⟩] (w.alloc (.cells #[.int .i64 0, .int .i64 0, .slice none 0 0] 24)) fun e w' => e = .returned (.tuple #[.int .i64 n, .nilIface]) ∧ Below (w.alloc (.cells #[.int .i64 0, .int .i64 0, .slice none 0 0] 24)).heap.size (w.alloc (.cells #[.int .i64 0, .int .i64 0, .slice none 0 0] 24)) w') :=
      atoi_ok ⟨t.toArray⟩ (by rw [hsz]; omega) n (by rw [hdt]; exact ha) _
    cases te : (Lib.itoa n == t)
    · have ne : ¬ Lib.itoa n = t := by simpa using te
      have HA : Hid (atomU (85 :: t) 0 = ((0, 0, .nil), 2)) := by
        show _ = _
        unfold atomU
        rw [List.drop_succ_cons, List.drop_zero, ha]
        simp only
        rw [if_neg ne]
        rfl
      clear ha
      clear ne
      go_enter Tryd.func78, Tryd.ntmps78
      go_wp2_with fail
      refine HT.out.mono ?_
      rintro e w1 ⟨rfl, hb1⟩
      have bx1 := bx0.below hb1
      have hbw1 : Below w.heap.size w w1 := hb0.trans (hb1.mono (by simp))
      have HI : Hid (Calls Tryd.prog 56 #[.int .i64 n] w1 fun e w' => e = .returned (.string ⟨(Lib.itoa n).toArray⟩) ∧ Below w1.heap.size w1 w') :=
        itoa_any n hnb.1 hnb.2 w1 ((hv.below hbw1).2.2.2.1)
      clear HT
      go_wp2_with fail
      refine HI.out.mono ?_
      rintro e w2 ⟨rfl, hb2⟩
      have bx2 := bx1.below hb2
      have hbw2 : Below w.heap.size w w2 := hbw1.trans (hb2.mono hbw1.size)
      obtain ⟨c0, c1, c2, f0, f1, f2⟩ := bx2.facts
      go_wp2_with fail
      obtain ⟨d0, d1, d2, _, _, _⟩ := (bx2.set (.int .i64 0) (.int .i64 0) (.slice none 0 0)).facts
      refine bodyPost_ret (v := .tuple #[.agg #[.int .i64 0, .int .i64 0, .slice none 0 0], .int .i64 2]) (by simp [results, Tryd.results78, go_sem, d0, d1, d2]) rfl ⟨by rw [HA.out]; rfl, ?_⟩
      exact ((hbw2.setCell (Nat.le_refl _) _).setCell (Nat.le_refl _) _).setCell (Nat.le_refl _) _
    · have eq : Lib.itoa n = t := by simpa using te
      by_cases hn0 : n < 0
      · have HA : Hid (atomU (85 :: t) 0 = ((0, 0, .nil), 3)) := by
          show _ = _
          unfold atomU
          rw [List.drop_succ_cons, List.drop_zero, ha]
          simp only
          rw [if_pos eq, if_pos (Or.inl hn0)]
          rfl
        clear ha
        clear eq
        go_enter Tryd.func78, Tryd.ntmps78
        go_wp2_with fail
        refine HT.out.mono ?_
        rintro e w1 ⟨rfl, hb1⟩
        have bx1 := bx0.below hb1
        have hbw1 : Below w.heap.size w w1 := hb0.trans (hb1.mono (by simp))
        have HI : Hid (Calls Tryd.prog 56 #[.int .i64 n] w1 fun e w' => e = .returned (.string ⟨(Lib.itoa n).toArray⟩) ∧ Below w1.heap.size w1 w') :=
          itoa_any n hnb.1 hnb.2 w1 ((hv.below hbw1).2.2.2.1)
        clear HT
        go_wp2_with fail
        refine HI.out.mono ?_
        rintro e w2 ⟨rfl, hb2⟩
        have bx2 := bx1.below hb2
        have hbw2 : Below w.heap.size w w2 := hbw1.trans (hb2.mono hbw1.size)
        obtain ⟨c0, c1, c2, f0, f1, f2⟩ := bx2.facts
        go_wp2_with fail
        obtain ⟨d0, d1, d2, _, _, _⟩ := (bx2.set (.int .i64 0) (.int .i64 0) (.slice none 0 0)).facts
        refine bodyPost_ret (v := .tuple #[.agg #[.int .i64 0, .int .i64 0, .slice none 0 0], .int .i64 3]) (by simp [results, Tryd.results78, go_sem, d0, d1, d2]) rfl ⟨by rw [HA.out]; rfl, ?_⟩
        exact ((hbw2.setCell (Nat.le_refl _) _).setCell (Nat.le_refl _) _).setCell (Nat.le_refl _) _
      · by_cases hn3 : 3 < n
        · have HA : Hid (atomU (85 :: t) 0 = ((0, 0, .nil), 3)) := by
            show _ = _
            unfold atomU
            rw [List.drop_succ_cons, List.drop_zero, ha]
            simp only
            rw [if_pos eq, if_pos (Or.inr hn3)]
            rfl
          clear ha
          clear eq
          go_enter Tryd.func78, Tryd.ntmps78
          go_wp2_with fail
          refine HT.out.mono ?_
          rintro e w1 ⟨rfl, hb1⟩
          have bx1 := bx0.below hb1
          have hbw1 : Below w.heap.size w w1 := hb0.trans (hb1.mono (by simp))
          have HI : Hid (Calls Tryd.prog 56 #[.int .i64 n] w1 fun e w' => e = .returned (.string ⟨(Lib.itoa n).toArray⟩) ∧ Below w1.heap.size w1 w') :=
            itoa_any n hnb.1 hnb.2 w1 ((hv.below hbw1).2.2.2.1)
          clear HT
          go_wp2_with fail
          refine HI.out.mono ?_
          rintro e w2 ⟨rfl, hb2⟩
          have bx2 := bx1.below hb2
          have hbw2 : Below w.heap.size w w2 := hbw1.trans (hb2.mono hbw1.size)
          obtain ⟨c0, c1, c2, f0, f1, f2⟩ := bx2.facts
          go_wp2_with fail
          obtain ⟨d0, d1, d2, _, _, _⟩ := (bx2.set (.int .i64 0) (.int .i64 0) (.slice none 0 0)).facts
          refine bodyPost_ret (v := .tuple #[.agg #[.int .i64 0, .int .i64 0, .slice none 0 0], .int .i64 3]) (by simp [results, Tryd.results78, go_sem, d0, d1, d2]) rfl ⟨by rw [HA.out]; rfl, ?_⟩
          exact ((hbw2.setCell (Nat.le_refl _) _).setCell (Nat.le_refl _) _).setCell (Nat.le_refl _) _
        · have HA : Hid (atomU (85 :: t) 0 = ((2, n, .nil), 0)) := by
            show _ = _
            unfold atomU
            rw [List.drop_succ_cons, List.drop_zero, ha]
            simp only
            rw [if_pos eq, if_neg (by omega)]
          clear ha
          clear eq
          go_enter Tryd.func78, Tryd.ntmps78
          go_wp2_with fail
          refine HT.out.mono ?_
          rintro e w1 ⟨rfl, hb1⟩
          have bx1 := bx0.below hb1
          have hbw1 : Below w.heap.size w w1 := hb0.trans (hb1.mono (by simp))
          have HI : Hid (Calls Tryd.prog 56 #[.int .i64 n] w1 fun e w' => e = .returned (.string ⟨(Lib.itoa n).toArray⟩) ∧ Below w1.heap.size w1 w') :=
            itoa_any n hnb.1 hnb.2 w1 ((hv.below hbw1).2.2.2.1)
          clear HT
          go_wp2_with fail
          refine HI.out.mono ?_
          rintro e w2 ⟨rfl, hb2⟩
          have bx2 := bx1.below hb2
          have hbw2 : Below w.heap.size w w2 := hbw1.trans (hb2.mono hbw1.size)
          obtain ⟨c0, c1, c2, f0, f1, f2⟩ := bx2.facts
          go_wp2_with fail
          obtain ⟨d0, d1, d2, _, _, _⟩ := (bx2.set (.int .i64 2) (.int .i64 n) (.slice none 0 0)).facts
          refine bodyPost_ret (v := .tuple #[.agg #[.int .i64 2, .int .i64 n, .slice none 0 0], .int .i64 0]) (by simp [results, Tryd.results78, go_sem, d0, d1, d2]) rfl ⟨by rw [HA.out]; rfl, ?_⟩
          exact ((hbw2.setCell (Nat.le_refl _) _).setCell (Nat.le_refl _) _).setCell (Nat.le_refl _) _
  · have hno : ∀ v, Lib.atoiAll t ≠ .ok v := fun v e => hok ⟨v, e⟩
    have HA : Hid (atomU (85 :: t) 0 = ((0, 0, .nil), 2)) := by
      show _ = _
      unfold atomU
      rw [List.drop_succ_cons, List.drop_zero]
      split
      · rename_i v e
        exact absurd e (hno v)
      · rfl
    have HT : Hid (Calls Tryd.prog 96 #[.string ⟨t.toArray⟩] (w.alloc (.cells #[.int .i64 0, .int .i64 0, .slice none 0 0] 24)) fun e w' => (∃ v T p, e = .returned (.tuple #[.int .i64 v, .iface T p])) ∧ Below (w.alloc (.cells #[.int .i64 0, .int .i64 0, .slice none 0 0] 24)).heap.size (w.alloc (.cells #[.int .i64 0, .int .i64 0, .slice none 0 0] 24)) w') :=
      atoi_err ⟨t.toArray⟩ (by rw [hsz]; omega) (by rw [hdt]; exact hno) _ hv0.2.1 hv0.2.2.1
    clear hno hok
    go_enter Tryd.func78, Tryd.ntmps78
    go_wp2_with fail
    refine HT.out.mono ?_
    rintro e w1 ⟨⟨v1, T1, p1, rfl⟩, hb1⟩
    have bx1 := bx0.below hb1
    have hbw1 : Below w.heap.size w w1 := hb0.trans (hb1.mono (by simp))
    clear HT
    obtain ⟨c0, c1, c2, f0, f1, f2⟩ := bx1.facts
    go_wp2_with fail
    obtain ⟨d0, d1, d2, _, _, _⟩ := (bx1.set (.int .i64 0) (.int .i64 0) (.slice none 0 0)).facts
    refine bodyPost_ret (v := .tuple #[.agg #[.int .i64 0, .int .i64 0, .slice none 0 0], .int .i64 2]) (by simp [results, Tryd.results78, go_sem, d0, d1, d2]) rfl ⟨by rw [HA.out]; rfl, ?_⟩
    exact ((hbw1.setCell (Nat.le_refl _) _).setCell (Nat.le_refl _) _).setCell (Nat.le_refl _) _

/-- What a name is. -/
def atomM (ns ds : List (List UInt8)) (wd : List UInt8) : (Int × Int × F) × Int := if nameB wd = false then ((0, 0, .nil), 7) else atomV ns ds wd 0
set_option maxRecDepth 60000 in
set_option maxHeartbeats 2000000 in
theorem named_any (lo r : Nat) (w : World) (wd : List UInt8) (ws ns ds : List (List UInt8)) (v : Value) (h : RS lo r w ws ns ds v) (hl : wd.length ≤ 1500) (hn1 : ns.length ≤ 1000000) (hd1 : ds.length ≤ 1152921504606846976) :
    Calls Tryd.prog 80 #[.pointer (some ⟨r, 0, none⟩), .string ⟨wd.toArray⟩] w fun e w' => e = .returned (leafV (atomM ns ds wd)) ∧ Below w.heap.size w w' := by
  have hb0 : Below w.heap.size w (w.alloc (.cells #[.int .i64 0, .int .i64 0, .slice none 0 0] 24)) := (Below.refl _ _).alloc (Nat.le_refl _) _
  have h0 := h.below hb0
  obtain ⟨pw, cw, pd, cd, h1, h2, h3, h4⟩ := h0.blk
  obtain ⟨pn, cn, rfl⟩ := h0.names.form
  obtain ⟨c0, c1, c2, f0, f1, f2⟩ := h1.facts
  have hrlt := h.lt
  have hv0 := h0.vs
  have HD : Hid (Strs (w.heap.size + 1) (w.alloc (.cells #[.int .i64 0, .int .i64 0, .slice none 0 0] 24)) pd ds) := Strs.of_tx h4 (by have := h.lor; omega)
  have HB : Hid (Strs (lo - 1) (w.alloc (.cells #[.int .i64 0, .int .i64 0, .slice none 0 0] 24)) pn ns) := h0.names.strs (by have := h.vs.1; omega)
  clear h h0 h1 h2 h3 h4
  cases hN : nameB wd
  · have HA : Hid (atomM ns ds wd = ((0, 0, .nil), 7)) := by unfold atomM; rw [if_pos hN]; rfl
    go_enter Tryd.func80, Tryd.ntmps80
    go_wp2_with fail
    refine (pname_any wd _ lo hv0 (by omega)).mono ?_
    rintro e w1 ⟨rfl, rfl⟩
    rw [hN]
    go_wp2_with fail
    refine bodyPost_ret (v := .tuple #[.agg #[.int .i64 0, .int .i64 0, .slice none 0 0], .int .i64 7]) (by simp [results, Tryd.results80, go_sem]) rfl ⟨by rw [HA.out]; rfl, ?_⟩
    exact (Below.refl _ _).alloc (Nat.le_refl _) _
  · have HM : Hid (atomM ns ds wd = atomV ns ds wd 0) := by unfold atomM; rw [if_neg (by rw [hN]; decide)]; rfl
    go_enter Tryd.func80, Tryd.ntmps80
    go_wp2_with fail
    refine (pname_any wd _ lo hv0 (by omega)).mono ?_
    rintro e w1 ⟨rfl, rfl⟩
    rw [hN]
    clear hN
    go_wp2_with fail
    refine (lastOf_any (lo - 1) _ pn cn ns wd HB.out (by omega)).mono ?_
    rintro e w1 ⟨rfl, rfl⟩
    cases hf : fl ns wd ns.length with
    | some i =>
      have hil := fl_lt ns wd ns.length i hf
      have HA : Hid (atomM ns ds wd = ((1, (ns.length : Int) - 1 - i, .nil), 0)) := by
        rw [HM.out]
        unfold atomV
        rw [hf]
        rfl
      rw [show flI ns wd ns.length = (i : Int) by unfold flI; rw [hf]]
      clear hf
      go_wp2_with fail
      refine bodyPost_ret (v := .tuple #[.agg #[.int .i64 1, .int .i64 ((ns.length : Int) - 1 - i), .slice none 0 0], .int .i64 0]) (by simp [results, Tryd.results80, go_sem]) rfl ⟨by rw [HA.out]; rfl, ?_⟩
      exact (Below.refl _ _).alloc (Nat.le_refl _) _
    | none =>
      rw [show flI ns wd ns.length = -1 by unfold flI; rw [hf]]
      go_wp2_with fail
      refine (lastOf_any _ _ pd cd ds wd HD.out (by omega)).mono ?_
      rintro e w1 ⟨rfl, rfl⟩
      cases hg : fl ds wd ds.length with
      | some i =>
        have HA : Hid (atomM ns ds wd = ((18, (i : Int), .nil), 0)) := by
          rw [HM.out]
          unfold atomV atomD
          rw [hf, hg]
          rfl
        rw [show flI ds wd ds.length = (i : Int) by unfold flI; rw [hg]]
        clear hf hg
        go_wp2_with fail
        refine bodyPost_ret (v := .tuple #[.agg #[.int .i64 18, .int .i64 (i : Int), .slice none 0 0], .int .i64 0]) (by simp [results, Tryd.results80, go_sem]) rfl ⟨by rw [HA.out]; rfl, ?_⟩
        exact (Below.refl _ _).alloc (Nat.le_refl _) _
      | none =>
        have HA : Hid (atomM ns ds wd = ((0, 0, .nil), 6)) := by
          rw [HM.out]
          unfold atomV atomD
          rw [hf, hg]
          rfl
        rw [show flI ds wd ds.length = -1 by unfold flI; rw [hg]]
        clear hf hg
        go_wp2_with fail
        refine bodyPost_ret (v := .tuple #[.agg #[.int .i64 0, .int .i64 0, .slice none 0 0], .int .i64 6]) (by simp [results, Tryd.results80, go_sem]) rfl ⟨by rw [HA.out]; rfl, ?_⟩
        exact (Below.refl _ _).alloc (Nat.le_refl _) _
end Go.Proofs.YtcgpjihfligdbaaDoor
