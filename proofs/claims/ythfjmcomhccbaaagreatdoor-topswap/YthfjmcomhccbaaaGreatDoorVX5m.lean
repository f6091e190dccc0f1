/-
  The program's reader: a number behind U; a name.
-/
/-
  The program's reader: one name more, names cut short; lists of terms beside its names.
-/
import Derived.Test.YthfjmcomhccbaaaGreatDoorB3m
import Derived.Test.YthfjmcomhccbaaaGreatDoorPlainSm
import Derived.Lib.AtoiAllCases
import Derived.Deep.RegionWith
namespace Go.Proofs.YthfjmcomhccbaaaGreatDoor
open Go.RowKit Tmx
set_option maxRecDepth 60000

/-- A term without arguments, and an error, as they are answered. -/
def leafV (x : (Int × Int × F) × Int) : Value := .tuple #[.agg #[.int .i64 x.1.1, .int .i64 x.1.2.1, .slice none 0 0], .int .i64 x.2]

set_option maxRecDepth 60000 in
set_option maxHeartbeats 2000000 in
theorem universe_any (w : World) (r : Nat) (t : List UInt8) (hv : Vs r w) (hl : t.length ≤ 1500) :
    Calls Tryz.prog 95 #[.string ⟨t.toArray⟩] w fun e w' => e = .returned (leafV (atomU (85 :: t) 0)) ∧ Below w.heap.size w w' := by
  have bx0 := Box.new w (.int .i64 0) (.int .i64 0) (.slice none 0 0)
  have hb0 : Below w.heap.size w (w.alloc (.cells #[.int .i64 0, .int .i64 0, .slice none 0 0] 30)) := (Below.refl _ _).alloc (Nat.le_refl _) _
  have hv0 := hv.below hb0
  have hsz : ({ data := t.toArray } : ByteArray).size = t.length := by simp [ByteArray.size]
  have hdt : ({ data := t.toArray } : ByteArray).data.toList = t := by simp
  by_cases hok : ∃ n, Lib.atoiAll t = .ok n
  · obtain ⟨n, ha⟩ := hok
    have hnb := Lib.atoiAll_bounds ha
    have HT : Hid (Calls Tryz.prog 120 #[.string ⟨t.toArray⟩] (w.alloc (.cells #[.int .i64 0, .int .i64 0, .slice none 0 0] 30)) fun e w' => e = .returned (.tuple #[.int .i64 n, .nilIface]) ∧ Below (w.alloc (.cells #[.int .i64 0, .int .i64 0, .slice none 0 0] 30)).heap.size (w.alloc (.cells #[.int .i64 0, .int .i64 0, .slice none 0 0] 30)) w') :=
      atoi_ok ⟨t.toArray⟩ (by rw [hsz]; omega) n (by rw [hdt]; exact ha) _
    cases te : (Lib.itoa n == t)
    · have ne : ¬ Lib.itoa n = t := by simpa using te
      have HA : Hid (atomU (85 :: t) 0 = ((0, 0, .nil), 2)) := by
        show _ = _
        unfold atomU
        rw [List.drop_succ_cons, List.drop_zero, ha]
        simp only
        rw [if_neg ne]
        rfl
      clear ha
      clear ne
      go_enter Tryz.func95, Tryz.ntmps95
      go_wp2_with fail
      refine HT.out.mono ?_
      rintro e w1 ⟨rfl, hb1⟩
      have bx1 := bx0.below hb1
      have hbw1 : Below w.heap.size w w1 := hb0.trans (hb1.mono (by simp))
      have HI : Hid (Calls Tryz.prog 121 #[.int .i64 n] w1 fun e w' => e = .returned (.string ⟨(Lib.itoa n).toArray⟩) ∧ Below w1.heap.size w1 w') :=
        itoa_any n hnb.1 hnb.2 w1 ((hv.below hbw1).2.2.2.1)
      clear HT
      go_wp2_with fail
      refine HI.out.mono ?_
      rintro e w2 ⟨rfl, hb2⟩
      have bx2 := bx1.below hb2
      have hbw2 : Below w.heap.size w w2 := hbw1.trans (hb2.mono hbw1.size)
      obtain ⟨c0, c1, c2, f0, f1, f2⟩ := bx2.facts
      go_wp2_with fail
      obtain ⟨d0, d1, d2, _, _, _⟩ := (bx2.set (.int .i64 0) (.int .i64 0) (.slice none 0 0)).facts
      refine bodyPost_ret (v := .tuple #[.agg #[.int .i64 0, .int .i64 0, .slice none 0 0], .int .i64 2]) (by simp [results, Tryz.results95, go_sem, d0, d1, d2]) rfl ⟨by rw [HA.out]; rfl, ?_⟩
      exact ((hbw2.setCell (Nat.le_refl _) _).setCell (Nat.le_refl _) _).setCell (Nat.le_refl _) _
    · have eq : Lib.itoa n = t := by simpa using te
      by_cases hn0 : n < 0
      · have HA : Hid (atomU (85 :: t) 0 = ((0, 0, .nil), 3)) := by
          show _ = _
          unfold atomU
          rw [List.drop_succ_cons, List.drop_zero, ha]
          simp only
          rw [if_pos eq, if_pos (Or.inl hn0)]
          rfl
        clear ha
        clear eq
        go_enter Tryz.func95, Tryz.ntmps95
        go_wp2_with fail
        refine HT.out.mono ?_
        rintro e w1 ⟨rfl, hb1⟩
        have bx1 := bx0.below hb1
        have hbw1 : Below w.heap.size w w1 := hb0.trans (hb1.mono (by simp))
        have HI : Hid (Calls Tryz.prog 121 #[.int .i64 n] w1 fun e w' => e = .returned (.string ⟨(Lib.itoa n).toArray⟩) ∧ Below w1.heap.size w1 w') :=
          itoa_any n hnb.1 hnb.2 w1 ((hv.below hbw1).2.2.2.1)
        clear HT
        go_wp2_with fail
        refine HI.out.mono ?_
        rintro e w2 ⟨rfl, hb2⟩
        have bx2 := bx1.below hb2
        have hbw2 : Below w.heap.size w w2 := hbw1.trans (hb2.mono hbw1.size)
        obtain ⟨c0, c1, c2, f0, f1, f2⟩ := bx2.facts
        go_wp2_with fail
        obtain ⟨d0, d1, d2, _, _, _⟩ := (bx2.set (.int .i64 0) (.int .i64 0) (.slice none 0 0)).facts
        refine bodyPost_ret (v := .tuple #[.agg #[.int .i64 0, .int .i64 0, .slice none 0 0], .int .i64 3]) (by simp [results, Tryz.results95, go_sem, d0, d1, d2]) rfl ⟨by rw [HA.out]; rfl, ?_⟩
        exact ((hbw2.setCell (Nat.le_refl _) _).setCell (Nat.le_refl _) _).setCell (Nat.le_refl _) _
      · by_cases hn3 : 3 < n
        · have HA : Hid (atomU (85 :: t) 0 = ((0, 0, .nil), 3)) := by
            show _ = _
            unfold atomU
            rw [List.drop_succ_cons, List.drop_zero, ha]
            simp only
            rw [if_pos eq, if_pos (Or.inr hn3)]
            rfl
          clear ha
          clear eq
          go_enter Tryz.func95, Tryz.ntmps95
          go_wp2_with fail
          refine HT.out.mono ?_
          rintro e w1 ⟨rfl, hb1⟩
          have bx1 := bx0.below hb1
          have hbw1 : Below w.heap.size w w1 := hb0.trans (hb1.mono (by simp))
          have HI : Hid (Calls Tryz.prog 121 #[.int .i64 n] w1 fun e w' => e = .returned (.string ⟨(Lib.itoa n).toArray⟩) ∧ Below w1.heap.size w1 w') :=
            itoa_any n hnb.1 hnb.2 w1 ((hv.below hbw1).2.2.2.1)
          clear HT
          go_wp2_with fail
          refine HI.out.mono ?_
          rintro e w2 ⟨rfl, hb2⟩
          have bx2 := bx1.below hb2
          have hbw2 : Below w.heap.size w w2 := hbw1.trans (hb2.mono hbw1.size)
          obtain ⟨c0, c1, c2, f0, f1, f2⟩ := bx2.facts
          go_wp2_with fail
          obtain ⟨d0, d1, d2, _, _, _⟩ := (bx2.set (.int .i64 0) (.int .i64 0) (.slice none 0 0)).facts
          refine bodyPost_ret (v := .tuple #[.agg #[.int .i64 0, .int .i64 0, .slice none 0 0], .int .i64 3]) (by simp [results, Tryz.results95, go_sem, d0, d1, d2]) rfl ⟨by rw [HA.out]; rfl, ?_⟩
          exact ((hbw2.setCell (Nat.le_refl _) _).setCell (Nat.le_refl _) _).setCell (Nat.le_refl _) _
        · have HA : Hid (atomU (85 :: t) 0 = ((2, n, .nil), 0)) := by
            show _ = _
            unfold atomU
            rw [List.drop_succ_cons, List.drop_zero, ha]
            simp only
            rw [if_pos eq, if_neg (by omega)]
          clear ha
          clear eq
          go_enter Tryz.func95, Tryz.ntmps95
          go_wp2_with fail
          refine HT.out.mono ?_
          rintro e w1 ⟨rfl, hb1⟩
          have bx1 := bx0.below hb1
          have hbw1 : Below w.heap.size w w1 := hb0.trans (hb1.mono (by simp))
          have HI : Hid (Calls Tryz.prog 121 #[.int .i64 n] w1 fun e w' => e = .returned (.string ⟨(Lib.itoa n).toArray⟩) ∧ Below w1.heap.size w1 w') :=
            itoa_any n hnb.1 hnb.2 w1 ((hv.below hbw1).2.2.2.1)
          clear HT
          go_wp2_with fail
          refine HI.out.mono ?_
          rintro e w2 ⟨rfl, hb2⟩
          have bx2 := bx1.below hb2
          have hbw2 : Below w.heap.size w w2 := hbw1.trans (hb2.mono hbw1.size)
          obtain ⟨c0, c1, c2, f0, f1, f2⟩ := bx2.facts
          go_wp2_with fail
          obtain ⟨d0, d1, d2, _, _, _⟩ := (bx2.set (.int .i64 2) (.int .i64 n) (.slice none 0 0)).facts
          refine bodyPost_ret (v := .tuple #[.agg #[.int .i64 2, .int .i64 n, .slice none 0 0], .int .i64 0]) (by simp [results, Tryz.results95, go_sem, d0, d1, d2]) rfl ⟨by rw [HA.out]; rfl, ?_⟩
          exact ((hbw2.setCell (Nat.le_refl _) _).setCell (Nat.le_refl _) _).setCell (Nat.le_refl _) _
  · have hno : ∀ v, Lib.atoiAll t ≠ .ok v := fun v e => hok ⟨v, e⟩
    have HA : Hid (atomU (85 :: t) 0 = ((0, 0, .nil), 2)) := by
      show _ = _
      unfold atomU
      rw [List.drop_succ_cons, List.drop_zero]
      split
      · rename_i v e
        exact absurd e (hno v)
      · rfl
    have HT : Hid (Calls Tryz.prog 120 #[.string ⟨t.toArray⟩] (w.alloc (.cells #[.int .i64 0, .int .i64 0, .slice none 0 0] 30)) fun e w' => (∃ v T p, e = .returned (.tuple #[.int .i64 v, .iface T p])) ∧ Below (w.alloc (.cells #[.int .i64 0, .int .i64 0, .slice none 0 0] 30)).heap.size (w.alloc (.cells #[.int .i64 0, .int .i64 0, .slice none 0 0] 30)) w') :=
      atoi_err ⟨t.toArray⟩ (by rw [hsz]; omega) (by rw [hdt]; exact hno) _ hv0.2.1 hv0.2.2.1
    clear hno hok
    go_enter Tryz.func95, Tryz.ntmps95
    go_wp2_with fail
    refine HT.out.mono ?_
    rintro e w1 ⟨⟨v1, T1, p1, rfl⟩, hb1⟩
    have bx1 := bx0.below hb1
    have hbw1 : Below w.heap.size w w1 := hb0.trans (hb1.mono (by simp))
    clear HT
    obtain ⟨c0, c1, c2, f0, f1, f2⟩ := bx1.facts
    go_wp2_with fail
    obtain ⟨d0, d1, d2, _, _, _⟩ := (bx1.set (.int .i64 0) (.int .i64 0) (.slice none 0 0)).facts
    refine bodyPost_ret (v := .tuple #[.agg #[.int .i64 0, .int .i64 0, .slice none 0 0], .int .i64 2]) (by simp [results, Tryz.results95, go_sem, d0, d1, d2]) rfl ⟨by rw [HA.out]; rfl, ?_⟩
    exact ((hbw1.setCell (Nat.le_refl _) _).setCell (Nat.le_refl _) _).setCell (Nat.le_refl _) _

/-- What a name is. -/
def atomM (ns ds : List (List UInt8)) (wd : List UInt8) : (Int × Int × F) × Int := if nameB wd = false then ((0, 0, .nil), 7) else atomV ns ds wd 0
set_option maxRecDepth 60000 in
set_option maxHeartbeats 2000000 in
theorem named_any (lo r : Nat) (w : World) (wd : List UInt8) (ws ns ds : List (List UInt8)) (v : Value) (h : RS lo r w ws ns ds v) (hl : wd.length ≤ 1500) (hn1 : ns.length ≤ 1000000) (hd1 : ds.length ≤ 1152921504606846976) :
    Calls Tryz.prog 97 #[.pointer (some ⟨r, 0, none⟩), .string ⟨wd.toArray⟩] w fun e w' => e = .returned (leafV (atomM ns ds wd)) ∧ Below w.heap.size w w' := by
  have hb0 : Below w.heap.size w (w.alloc (.cells #[.int .i64 0, .int .i64 0, .slice none 0 0] 30)) := (Below.refl _ _).alloc (Nat.le_refl _) _
  have h0 := h.below hb0
  obtain ⟨pw, cw, pd, cd, h1, h2, h3, h4⟩ := h0.blk
  obtain ⟨pn, cn, rfl⟩ := h0.names.form
  obtain ⟨c0, c1, c2, f0, f1, f2⟩ := h1.facts
  have hrlt := h.lt
  have hv0 := h0.vs
  have HD : Hid (Strs (w.heap.size + 1) (w.alloc (.cells #[.int .i64 0, .int .i64 0, .slice none 0 0] 30)) pd ds) := Strs.of_tx h4 (by have := h.lor; omega)
  have HB : Hid (Strs (lo - 1) (w.alloc (.cells #[.int .i64 0, .int .i64 0, .slice none 0 0] 30)) pn ns) := h0.names.strs (by have := h.vs.1; omega)
  clear h h0 h1 h2 h3 h4
  cases hN : nameB wd
  · have HA : Hid (atomM ns ds wd = ((0, 0, .nil), 7)) := by unfold atomM; rw [if_pos hN]; rfl
    go_enter Tryz.func97, Tryz.ntmps97
    go_wp2_with fail
    refine (pname_any wd _ lo hv0 (by omega)).mono ?_
    rintro e w1 ⟨rfl, rfl⟩
    rw [hN]
    go_wp2_with fail
    refine bodyPost_ret (v := .tuple #[.agg #[.int .i64 0, .int .i64 0, .slice none 0 0], .int .i64 7]) (by simp [results, Tryz.results97, go_sem]) rfl ⟨by rw [HA.out]; rfl, ?_⟩
    exact (Below.refl _ _).alloc (Nat.le_refl _) _
  · have HM : Hid (atomM ns ds wd = atomV ns ds wd 0) := by unfold atomM; rw [if_neg (by rw [hN]; decide)]; rfl
    go_enter Tryz.func97, Tryz.ntmps97
    go_wp2_with fail
    refine (pname_any wd _ lo hv0 (by omega)).mono ?_
    rintro e w1 ⟨rfl, rfl⟩
    rw [hN]
    clear hN
    go_wp2_with fail
    refine (lastOf_any (lo - 1) _ pn cn ns wd HB.out (by omega)).mono ?_
    rintro e w1 ⟨rfl, rfl⟩
    cases hf : fl ns wd ns.length with
    | some i =>
      have hil := fl_lt ns wd ns.length i hf
      have HA : Hid (atomM ns ds wd = ((1, (ns.length : Int) - 1 - i, .nil), 0)) := by
        rw [HM.out]
        unfold atomV
        rw [hf]
        rfl
      rw [show flI ns wd ns.length = (i : Int) by unfold flI; rw [hf]]
      clear hf
      go_wp2_with fail
      refine bodyPost_ret (v := .tuple #[.agg #[.int .i64 1, .int .i64 ((ns.length : Int) - 1 - i), .slice none 0 0], .int .i64 0]) (by simp [results, Tryz.results97, go_sem]) rfl ⟨by rw [HA.out]; rfl, ?_⟩
      exact (Below.refl _ _).alloc (Nat.le_refl _) _
    | none =>
      rw [show flI ns wd ns.length = -1 by unfold flI; rw [hf]]
      go_wp2_with fail
      refine (lastOf_any _ _ pd cd ds wd HD.out (by omega)).mono ?_
      rintro e w1 ⟨rfl, rfl⟩
      cases hg : fl ds wd ds.length with
      | some i =>
        have HA : Hid (atomM ns ds wd = ((18, (i : Int), .nil), 0)) := by
          rw [HM.out]
          unfold atomV atomD
          rw [hf, hg]
          rfl
        rw [show flI ds wd ds.length = (i : Int) by unfold flI; rw [hg]]
        clear hf hg
        go_wp2_with fail
        refine bodyPost_ret (v := .tuple #[.agg #[.int .i64 18, .int .i64 (i : Int), .slice none 0 0], .int .i64 0]) (by simp [results, Tryz.results97, go_sem]) rfl ⟨by rw [HA.out]; rfl, ?_⟩
        exact (Below.refl _ _).alloc (Nat.le_refl _) _
      | none =>
        have HA : Hid (atomM ns ds wd = ((0, 0, .nil), 6)) := by
          rw [HM.out]
          unfold atomV atomD
          rw [hf, hg]
          rfl
        rw [show flI ds wd ds.length = -1 by unfold flI; rw [hg]]
        clear hf hg
        go_wp2_with fail
        refine bodyPost_ret (v := .tuple #[.agg #[.int .i64 0, .int .i64 0, .slice none 0 0], .int .i64 6]) (by simp [results, Tryz.results97, go_sem]) rfl ⟨by rw [HA.out]; rfl, ?_⟩
        exact (Below.refl _ _).alloc (Nat.le_refl _) _
end Go.Proofs.YthfjmcomhccbaaaGreatDoor

namespace Go.Proofs.YthfjmcomhccbaaaGreatDoor
open Go.RowKit Tmx
set_option maxRecDepth 60000

theorem RS.setB {lo r : Nat} {w : World} {ws ns ds : List (List UInt8)} {v : Value} (h : RS lo r w ws ns ds v) {v' : Value} {ns' : List (List UInt8)} (hN : NamesIn lo w v' ns') (ho : v'.ownBlock ≠ some r) : RS lo r (w.setCell ⟨r, 1, none⟩ v') ws ns' ds v' := by
  obtain ⟨pw, cw, pd, cd, h1, h2, h3, h4⟩ := h.blk
  have hl := h.lor
  exact ⟨⟨pw, cw, pd, cd, h1.setB v', h2.along fun b hb _ => Below.heap_setCell _ _ _ _ (by show b ≠ r; omega), h3, h4.along fun b hb _ => Below.heap_setCell _ _ _ _ (by show b ≠ r; omega)⟩,
    NamesIn.set hN ho v', ho, hl, h.vs.along fun g hg _ => Below.heap_setCell _ _ _ _ (by have := h.vs.1; show g ≠ r; omega)⟩

/-- A name is put behind those that are bound. -/
theorem rs_push {lo r : Nat} {w : World} {ws ns ds : List (List UInt8)} {v : Value} (h : RS lo r w ws ns ds v) (x : List UInt8) (hn : ns.length ≤ 4000000) :
    ∃ g cap w1, (Builtin.append_ #[102, 102] 102 #[v, .slice (some ⟨w.heap.size, 0, none⟩) 1 1]).run Tryz.prog (w.alloc (.cells #[.string ⟨x.toArray⟩] 9)) = .ok (.slice (some ⟨g, 0, none⟩) (ns.length + 1) cap) w1 ∧
      (w1.cell? ⟨r, 0, none⟩ = w.cell? ⟨r, 0, none⟩ ∧ w1.cell? ⟨r, 1, none⟩ = w.cell? ⟨r, 1, none⟩ ∧ w1.cell? ⟨r, 2, none⟩ = w.cell? ⟨r, 2, none⟩ ∧ w1.frozen? ⟨r, 1, none⟩ = w.frozen? ⟨r, 1, none⟩) ∧
      RS lo r (w1.setCell ⟨r, 1, none⟩ (.slice (some ⟨g, 0, none⟩) (ns.length + 1) cap)) ws (ns ++ [x]) ds (.slice (some ⟨g, 0, none⟩) (ns.length + 1) cap) ∧
      KB r v w (w1.setCell ⟨r, 1, none⟩ (.slice (some ⟨g, 0, none⟩) (ns.length + 1) cap)) ∧ OwnNew w v (.slice (some ⟨g, 0, none⟩) (ns.length + 1) cap) := by
  have hr := h.lt
  obtain ⟨g, cap, w1, hrun, hN, ho, h1, h2, h3, h4, h5⟩ := push_name w lo v ns h.names x hn (by have := h.lor; omega)
  have hrb : w1.heap[r]? = w.heap[r]? := h5 r hr h.own
  have hog : (Value.slice (some ⟨g, 0, none⟩) (ns.length + 1) cap).ownBlock ≠ some r := fun e => by
    rcases ho r e with h6 | h6
    · exact h.own h6
    · omega
  refine ⟨g, cap, w1, hrun, ⟨World.cell?_of_block hrb, World.cell?_of_block hrb, World.cell?_of_block hrb, World.frozen?_of_block hrb⟩, ?_, ?_, ho⟩
  · obtain ⟨pw, cw, pd, cd, b1, b2, b3, b4⟩ := h.blk
    have hl := h.lor
    have hlow : ∀ b, b < lo → b < w.heap.size → w1.heap[b]? = w.heap[b]? := fun b hb hs => h5 b hs fun e => by have := (h.ownlt b e).1; omega
    refine ⟨⟨pw, cw, pd, cd, (b1.of_block hrb).setB _, (b2.along hlow).along fun b hb _ => Below.heap_setCell _ _ _ _ (by show b ≠ r; omega), b3, (b4.along hlow).along fun b hb _ => Below.heap_setCell _ _ _ _ (by show b ≠ r; omega)⟩,
      NamesIn.set hN hog _, hog, hl, ?_⟩
    have hv1 := h.vs.along (w' := w1) fun g hg hs => hlow g (by have := h.vs.1; omega) hs
    exact hv1.along fun g hg _ => Below.heap_setCell _ _ _ _ (by have := h.vs.1; show g ≠ r; omega)
  · exact ⟨h1, h2, h3, by simpa [World.setCell] using h4, fun k hk hkr hv => by rw [Below.heap_setCell _ _ _ _ (by show k ≠ r; exact hkr)]; exact h5 k hk hv⟩

/-- A list of texts cut short. -/
theorem cut_texts {lo : Nat} {w : World} {p : Option Addr} {n cap : Nat} {ns : List (List UInt8)} (h : NamesIn lo w (.slice p n cap) ns) {m : Nat} (hm : m ≤ n) (hn : n = ns.length) :
    ∀ W : World, (Instr.sliceAt 102 (.slice p n cap) none (some (.int .i64 (m : Int))) none).run Tryz.prog W = .ok (.slice p m cap) W := by
  have hel : Tryz.prog.underlying 102 = some (.slice (Tryz.prog.elem 102)) := by kernel_rfl
  have hsz : ∀ W : World, (sizeOf (Tryz.prog.elem 102)).run Tryz.prog W = .ok 1 W := fun W => by kernel_rfl
  intro W
  obtain ⟨g1, g2⟩ := h
  rcases g2 with ⟨e, h0⟩ | ⟨g, cap', cur, e, hg, hh, hnn, _⟩
  · obtain ⟨rfl, rfl, rfl⟩ := Value.slice.inj e
    obtain rfl : m = 0 := by omega
    rw [run_sliceAt_slice _ _ _ _ _ _ hel, run_slice_h _ _ _ _ _ hel .i64 ((0 : Nat) : Int) (by omega) (by omega), hsz]
    simp [sliced, Result.andThen]
  · obtain ⟨rfl, rfl, rfl⟩ := Value.slice.inj e
    rw [run_sliceAt_slice _ _ _ _ _ _ hel, run_slice_h _ _ _ _ _ hel .i64 (m : Int) (by omega) (by omega), hsz]
    simp [sliced, Result.andThen]
    intro _
    unfold Addr.add
    split <;> simp_all

/-- The value v holds the terms A, in a row of one's own from the block lo on; what they hold lies elsewhere, from lo on; and all beside the row of bv. -/
def ArgsR (lo : Nat) (bv : Value) (w : World) (v : Value) (A : F) : Prop :=
  ∃ xs, w.ownsRow lo 30 3 v (len A) xs ∧ Cells (fun b => lo ≤ b ∧ v.ownBlock ≠ some b ∧ bv.ownBlock ≠ some b) w A xs ∧ ∀ b, v.ownBlock = some b → bv.ownBlock ≠ some b
theorem ArgsR.nil (lo : Nat) (bv : Value) (w : World) : ArgsR lo bv w (.slice none 0 0) .nil := ⟨[], World.ownsRow_nil w lo 30 3, rfl, fun b h => by simp [Value.ownBlock] at h⟩
theorem ArgsR.cap {lo : Nat} {bv : Value} {w : World} {p : Option Addr} {n cap : Nat} {A : F} (h : ArgsR lo bv w (.slice p n cap) A) : len A ≤ cap := by
  obtain ⟨xs, ⟨_, h2⟩, _⟩ := h
  rcases h2 with ⟨e, h0⟩ | ⟨g, cap', cur, e, _, _, hn, _⟩
  · omega
  · obtain ⟨rfl, rfl, rfl⟩ := Value.slice.inj e
    exact hn
theorem ArgsR.form {lo : Nat} {bv : Value} {w : World} {v : Value} {A : F} (h : ArgsR lo bv w v A) : ∃ p cap, v = .slice p (len A) cap := by
  obtain ⟨xs, ⟨_, h2⟩, _⟩ := h
  rcases h2 with ⟨rfl, h0⟩ | ⟨g, cap, cur, rfl, _⟩
  · exact ⟨none, 0, by rw [h0]⟩
  · exact ⟨_, _, rfl⟩
/-- Behind a call that has turned the reader, its names, and new blocks. -/
theorem ArgsR.along {lo r : Nat} {bv bv' : Value} {w w' : World} {v : Value} {A : F} (h : ArgsR lo bv w v A) (hb : KB r bv w w') (ho : OwnNew w bv bv') (hr : r < lo) : ArgsR lo bv' w' v A := by
  obtain ⟨xs, h1, h2, h3⟩ := h
  have hown := h1.lt
  have hnew : ∀ b, b < w.heap.size → bv.ownBlock ≠ some b → bv'.ownBlock ≠ some b := fun b hs hn e => by
    rcases ho b e with h4 | h4
    · exact hn h4
    · omega
  refine ⟨xs, ?_, h2.along fun b o u hq hc => ?_, fun b e => hnew b (hown b e).2 (h3 b e)⟩
  · obtain ⟨g1, g2⟩ := h1
    refine ⟨g1, ?_⟩
    rcases g2 with g2 | ⟨g, cap, cur, rfl, hg, hh, hrr⟩
    · exact .inl g2
    · exact .inr ⟨g, cap, cur, rfl, hg, by rw [hb.block g (hown g rfl).2 (by omega) (h3 g rfl)]; exact hh, hrr⟩
  · have hs := World.block_lt_of_cell? w ⟨b, o, none⟩ hc
    refine ⟨⟨hq.1, hq.2.1, hnew b hs hq.2.2⟩, ?_⟩
    rw [World.cell?_of_block (w := w) (hb.block b hs (by have := hq.1; omega) hq.2.2)]
    exact hc
/-- In a world with new blocks alone. -/
theorem ArgsR.below {lo : Nat} {bv : Value} {w w' : World} {v : Value} {A : F} (h : ArgsR lo bv w v A) (hb : Below w.heap.size w w') (hl : 0 < lo) : ArgsR lo bv w' v A :=
  h.along (r := 0) (.of_below hb) (OwnNew.refl _ _) hl
/-- Where a block ahead of lo is written. -/
theorem ArgsR.set {lo : Nat} {bv : Value} {w : World} {v : Value} {A : F} (h : ArgsR lo bv w v A) {x : Addr} (hx : x.block < lo) (u : Value) : ArgsR lo bv (w.setCell x u) v A :=
  h.along (r := x.block) ⟨rfl, rfl, rfl, by simp [World.setCell], fun k _ hk _ => Below.heap_setCell _ _ _ _ hk⟩ (OwnNew.refl _ _) hx
theorem ArgsR.slQ {lo : Nat} {bv : Value} {w : World} {p : Option Addr} {n cap : Nat} {A : F} (h : ArgsR lo bv w (.slice p n cap) A) : SlQ (fun b => lo ≤ b ∧ bv.ownBlock ≠ some b) w p A := by
  obtain ⟨xs, h1, h2, h3⟩ := h
  obtain ⟨g1, g2⟩ := h1
  rcases g2 with ⟨e, h0⟩ | ⟨g, cap', cur, e, hg, hh, hn, hm, hs, ht⟩
  · rw [size_nil_of_len A h0]
    exact ⟨0, 0, fun h => by simp [len] at h, trivial⟩
  · have he : p = some ⟨g, 0, none⟩ := by simpa using (Value.slice.inj e).1
    subst he
    refine ⟨g, 0, fun _ => rfl, ?_⟩
    have h2' : Cells (fun b => lo ≤ b ∧ bv.ownBlock ≠ some b) w A xs := h2.along fun b o u hq hc => ⟨⟨hq.1, hq.2.2⟩, hc⟩
    refine Cells.row ⟨hg, h3 g rfl⟩ A xs 0 h2' fun i hi => ?_
    rw [Nat.zero_add, cell_of_row w g i cur 30 (0, 0) hh, ← ht, List.getElem?_take, if_pos (by rw [← g1]; exact hi)]
    simp

/-- A term is appended. -/
theorem append_termR (w : World) (lo : Nat) (bv v : Value) (A : F) (hA : ArgsR lo bv w v A) (c : Nat) (k n : Int) (p : Option Addr) (cp : Nat) (L : F) (hcp : len L ≤ cp)
    (hL : SlQ (fun b => lo ≤ b ∧ v.ownBlock ≠ some b ∧ bv.ownBlock ≠ some b) w p L) (hbv : ∀ b, bv.ownBlock = some b → b < w.heap.size) (hlen : len A ≤ 1000000) (hlo : lo ≤ w.heap.size) (h0 : 0 < lo) :
    ∃ g cap w', (Builtin.append_ #[28, 28] 28 #[v, .slice (some ⟨w.heap.size, 0, none⟩) 1 c]).run Tryz.prog (w.alloc (.cells #[.int .i64 k, .int .i64 n, .slice p (len L) cp] 30)) = .ok (.slice (some ⟨g, 0, none⟩) (len A + 1) cap) w' ∧
      ArgsR lo bv w' (.slice (some ⟨g, 0, none⟩) (len A + 1) cap) (snoc A (k, n, L)) ∧ w'.os = w.os ∧ w'.tape = w.tape ∧ w'.output = w.output ∧ w.heap.size ≤ w'.heap.size ∧ (∀ b, b < w.heap.size → v.ownBlock ≠ some b → w'.heap[b]? = w.heap[b]?) := by
  obtain ⟨i, hi, he⟩ := Option.map_eq_some_iff.1 i24
  simp only [Prod.mk.injEq] at he
  obtain ⟨hz, hs, hb⟩ := he
  have hbA : Below w.heap.size w (w.alloc (.cells #[.int .i64 k, .int .i64 n, .slice p (len L) cp] 30)) := (Below.refl _ _).alloc (Nat.le_refl _) _
  have hsz : (w.alloc (.cells #[.int .i64 k, .int .i64 n, .slice p (len L) cp] 30)).heap.size = w.heap.size + 1 := by simp
  have hB : (w.alloc (.cells #[.int .i64 k, .int .i64 n, .slice p (len L) cp] 30)).heap[w.heap.size]? = some (.cells #[.int .i64 k, .int .i64 n, .slice p (len L) cp] 30 (0, 0)) := heap_alloc_new _ _
  obtain ⟨xs, h1, h2, h3⟩ := hA.below hbA h0
  have hown := h1.lt
  obtain ⟨g, cap, w', hr, ho, hg, hat, hlt⟩ := run_append_lies (P := Tryz.prog) (w.alloc (.cells #[.int .i64 k, .int .i64 n, .slice p (len L) cp] 30)) 28 28 lo 30 i _ 3 40 u22 hi hz hs hb rfl (by decide) v (len A) xs h1 ⟨w.heap.size, 0, none⟩ 1 c [.int .i64 k, .int .i64 n, .slice p (len L) cp] rfl
    (World.news_of_block hB) (by simp [Value.oneCell']) (by decide) (by simp only [maxLen]; omega) (by omega) (by omega) (w.alloc (.cells #[.int .i64 k, .int .i64 n, .slice p (len L) cp] 30)).heap.size rfl
  rw [hsz] at hat
  have hz1 := hg.size
  rw [hsz] at hz1
  have hgn : ∀ b, b < w.heap.size + 1 → v.ownBlock ≠ some b → g ≠ b := fun b hb hn e => by
    subst e
    rcases hat with h | h
    · exact hn h
    · omega
  have hgb : bv.ownBlock ≠ some g := fun e => by
    rcases hat with h | h
    · exact h3 g h e
    · have := hbv g e; omega
  have hc : ∀ b o u, (lo ≤ b ∧ v.ownBlock ≠ some b ∧ bv.ownBlock ≠ some b) → (w.alloc (.cells #[.int .i64 k, .int .i64 n, .slice p (len L) cp] 30)).cell? ⟨b, o, none⟩ = some u → (lo ≤ b ∧ (Value.slice (some ⟨g, 0, none⟩) (len A + 1) cap).ownBlock ≠ some b ∧ bv.ownBlock ≠ some b) ∧ w'.cell? ⟨b, o, none⟩ = some u := by
    intro b o u hq hu
    have hbl := World.block_lt_of_cell? _ ⟨b, o, none⟩ hu
    rw [hsz] at hbl
    refine ⟨⟨hq.1, fun e => hgn b hbl hq.2.1 (by simpa [Value.ownBlock] using e), hq.2.2⟩, hg.cell hu (fun e => hq.2.1 e.symm)⟩
  refine ⟨g, cap, w', hr, ⟨xs ++ [.int .i64 k, .int .i64 n, .slice p (len L) cp], by rw [len_snoc]; exact ho, ?_, fun b e => ?_⟩, hg.os, hg.tape, hg.output, by omega, fun b hb hv => ?_⟩
  · have hL' : SlQ (fun b => lo ≤ b ∧ v.ownBlock ≠ some b ∧ bv.ownBlock ≠ some b) (w.alloc (.cells #[.int .i64 k, .int .i64 n, .slice p (len L) cp] 30)) p L := hL.along fun b o u hq hu => ⟨hq, below_some hbA b o u hu⟩
    exact Cells.snoc hcp (hL'.along hc) A xs (h2.along hc)
  · have : g = b := by simpa [Value.ownBlock] using e
    rw [← this]
    exact hgb
  · rw [hg.block b (by omega) (fun e => hv e.symm)]
    exact Below.heap_alloc _ _ _ hb
end Go.Proofs.YthfjmcomhccbaaaGreatDoor
