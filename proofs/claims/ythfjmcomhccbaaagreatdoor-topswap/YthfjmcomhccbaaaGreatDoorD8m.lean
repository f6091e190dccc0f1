/-
  Contracts of package decl: Add.
-/
/-
  Contracts of package decl: the names of declarations.
-/
/-
  The program's Parse.
-/
import Derived.Test.YthfjmcomhccbaaaGreatDoorD6m
import Derived.Test.YthfjmcomhccbaaaGreatDoorE22m
import Derived.Deep.OwnRows
import Derived.Test.YthfjmcomhccbaaaGreatDoorVX8m
import Derived.Test.YthfjmcomhccbaaaGreatDoorPlainSm
import Derived.Test.YthfjmcomhccbaaaGreatDoorD0m
namespace Go.Proofs.YthfjmcomhccbaaaGreatDoor
open Go.RowKit Tmx Evx
set_option maxRecDepth 60000

def noDs (c : Nat) : Array Value := madeCells #[.string ⟨#[]⟩, .int .i64 0, .int .i64 0, .slice none 0 0, .int .i64 0, .int .i64 0, .slice none 0 0] (c * 7)
theorem makeDs (c : Nat) (h : c ≤ 100000) (W : World) :
    (Instr.makeSlice 23 (.int .i64 0) (.int .i64 c)).run Tryz.prog W = .ok (.slice (some ⟨W.heap.size, 0, none⟩) 0 c) (W.alloc (.cells (noDs c) 70)) := by
  obtain ⟨i, hi, he⟩ := Option.map_eq_some_iff.1 iDcl
  simp only [Prod.mk.injEq] at he
  obtain ⟨hz, hs, hb⟩ := he
  have := run_make (P := Tryz.prog) W 23 70 i _ uDcl hi hz .i64 .i64 0 (c : Int) (by omega) (by omega) (by rw [hb]; omega) (by omega)
  rw [hs, Int.toNat_natCast] at this
  exact this
theorem DlIn.mono {lo lo' : Nat} {w : World} {v : Value} {l : List Dcl} (h : DlIn lo w v l) (hl : lo' ≤ lo) : DlIn lo' w v l := by
  obtain ⟨xs, ⟨h0, h1⟩, h2⟩ := h
  refine ⟨xs, ⟨h0, ?_⟩, h2.map fun {q f} hs => hs.mono fun b h => ⟨⟨Nat.le_trans hl h.1.1, h.1.2⟩, h.2⟩⟩
  rcases h1 with h1 | ⟨g, cap, cur, e, hg, hr⟩
  · exact .inl h1
  · exact .inr ⟨g, cap, cur, e, Nat.le_trans hl hg, hr⟩
theorem madeDs (lo c : Nat) (w : World) (h : c ≤ 100000) (hlo : lo ≤ w.heap.size) : DlIn lo (w.alloc (.cells (noDs c) 70)) (.slice (some ⟨w.heap.size, 0, none⟩) 0 c) [] :=
  ⟨[], ⟨rfl, .inr ⟨w.heap.size, c, noDs c, rfl, hlo, heap_alloc_new _ _, Nat.zero_le _, by simp only [maxLen]; omega, size_madeCells _ _, by simp⟩⟩, rfl⟩

set_option maxHeartbeats 8000000 in
theorem add_any (s cf fu : Nat) (l : List Dcl) (d : Dcl) (r : Bool) (p p1 p2 : Option Addr) (cap c1 c2 : Nat) (w : World) (hl : DlAt w p l) (hT : len d.T.2.2 ≤ c1) (hB : len d.B.2.2 ≤ c2) (sT : SlO (old w) w p1 d.T.2.2) (sB : SlO (old w) w p2 d.B.2.2) (hN : NameOK d.nm w)
    (hF : Fits s cf fu l d r) (hs : small d) (hls : ∀ x, x ∈ l → small x) :
    Calls Tryz.prog 28 #[.slice p l.length cap, .agg (sevenD d p1 p2 c1 c2).toArray] w fun e w' => ∃ v', e = .returned (.tuple #[v', .agg #[.int .i64 (okE r), .int .i64 (if r then 0 else 2)]]) ∧ DlIn w.heap.size w' v' (if r then l ++ [d] else l) ∧ Below w.heap.size w w' := by
  obtain ⟨ez, hez⟩ : ∃ e, okE r = e := ⟨_, rfl⟩
  obtain ⟨pz, hpz⟩ : ∃ e, (if r = true then (0 : Int) else 2) = e := ⟨_, rfl⟩
  obtain ⟨L, hL⟩ : ∃ L, (if r = true then l ++ [d] else l) = L := ⟨_, rfl⟩
  have HE : Hid (okE r = ez ∧ (if r = true then (0 : Int) else 2) = pz ∧ (if r = true then l ++ [d] else l) = L) := ⟨hez, hpz, hL⟩
  rw [hez, hpz, hL]
  clear hez hpz hL
  obtain ⟨n, hn⟩ : ∃ n, l.length = n := ⟨_, rfl⟩
  have hn12 : n < 12 := by have := hF.few; omega
  have hmk : ∀ W : World, (Instr.makeSlice 23 (.int .i64 0) (.int .i64 ((n : Int) + 1))).run Tryz.prog W = .ok (.slice (some ⟨W.heap.size, 0, none⟩) 0 (n + 1)) (W.alloc (.cells (noDs (n + 1)) 70)) := makeDs (n + 1) (by omega)
  rw [hn]
  have HS : Hid (DlAt w p l ∧ SlO (old w) w p1 d.T.2.2 ∧ SlO (old w) w p2 d.B.2.2 ∧ len d.T.2.2 ≤ c1 ∧ len d.B.2.2 ≤ c2 ∧ small d ∧ (∀ x, x ∈ l → small x) ∧ NameOK d.nm w ∧ Fits s cf fu l d r ∧ l.length = n) := ⟨hl, sT, sB, hT, hB, hs, hls, hN, hF, hn⟩
  have hb2 : Below w.heap.size w ((w.alloc (.cells (sevenD d p1 p2 c1 c2).toArray 70)).alloc (.cells #[.int .i64 0, .int .i64 0] 40)) := ((Below.refl _ _).alloc (Nat.le_refl _) _).alloc (by simp) _
  have hd2 : Blk ((w.alloc (.cells (sevenD d p1 p2 c1 c2).toArray 70)).alloc (.cells #[.int .i64 0, .int .i64 0] 40)) w.heap.size (sevenD d p1 p2 c1 c2).toArray 70 := (Blk.new w _ _).alloc _
  have hv2 : Blk ((w.alloc (.cells (sevenD d p1 p2 c1 c2).toArray 70)).alloc (.cells #[.int .i64 0, .int .i64 0] 40)) (w.heap.size + 1) #[.int .i64 0, .int .i64 0] 40 := by
    have := Blk.new (w.alloc (.cells (sevenD d p1 p2 c1 c2).toArray 70)) #[.int .i64 0, .int .i64 0] 40
    rw [World.size_alloc] at this
    exact this
  have hz2 : ((w.alloc (.cells (sevenD d p1 p2 c1 c2).toArray 70)).alloc (.cells #[.int .i64 0, .int .i64 0] 40)).heap.size = w.heap.size + 2 := by simp
  generalize hW2 : (w.alloc (.cells (sevenD d p1 p2 c1 c2).toArray 70)).alloc (.cells #[.int .i64 0, .int .i64 0] 40) = W2 at *
  have H2 : Hid (Below w.heap.size w W2 ∧ Blk W2 w.heap.size (sevenD d p1 p2 c1 c2).toArray 70 ∧ Blk W2 (w.heap.size + 1) #[.int .i64 0, .int .i64 0] 40 ∧ W2.heap.size = w.heap.size + 2) := ⟨hb2, hd2, hv2, hz2⟩
  unfold sevenD at *
  clear hl hT hB sT sB hN hF hs hls hn hb2 hd2 hv2 hz2
  go_enter Tryz.func28, Tryz.ntmps28
  go_wp2_with fail
  go_loopw [6, 15] (fun out i wr => ∃ j : Nat, j ≤ n ∧ i = .int .i64 j ∧ Below W2.heap.size W2 wr ∧ DlIn W2.heap.size wr out (l.take j)) (fun _ i _ => n - (intOf i).toNat)
  case atStart => exact ⟨0, Nat.zero_le _, rfl, (Below.refl _ _).alloc (Nat.le_refl _) _, madeDs _ _ _ (by omega) (Nat.le_refl _)⟩
  case round =>
    clear hmk hW2
    obtain ⟨j, hj, rfl, hb, hD⟩ := hrel
    obtain ⟨po, co, hvo, hco⟩ := hD.form
    have htk : (l.take j).length = j := by rw [List.length_take, HS.out.2.2.2.2.2.2.2.2.2]; omega
    rw [htk] at hvo hco
    subst hvo
    have hBw : Below w.heap.size w wr := H2.out.1.trans (hb.mono H2.out.1.size)
    by_cases hlt : j < n
    · obtain ⟨x, hx⟩ : ∃ x, l[j]? = some x := ⟨_, List.getElem?_eq_getElem (by rw [HS.out.2.2.2.2.2.2.2.2.2]; exact hlt)⟩
      obtain ⟨b, o, a1, a2, k1, k2, rfl, hcell, m1, m2, m3, m4⟩ := (HS.out.1.below hBw) j x hx
      obtain ⟨x0, x1, x2, x3, x4, x5, x6⟩ := seven_at hcell
      have HX : Hid (l[j]? = some x ∧ len x.T.2.2 ≤ k1 ∧ len x.B.2.2 ≤ k2 ∧ SlO (old wr) wr a1 x.T.2.2 ∧ SlO (old wr) wr a2 x.B.2.2 ∧ Below W2.heap.size W2 wr ∧ DlIn W2.heap.size wr (.slice po j co) (l.take j) ∧ (l.take j).length = j) := ⟨hx, m1, m2, m3, m4, hb, hD, htk⟩
      clear hx hcell m1 m2 m3 m4 hb hD htk hBw
      have hbx : Below wr.heap.size wr (wr.alloc (.cells (sevenD x a1 a2 k1 k2).toArray 70)) := (Below.refl _ _).alloc (Nat.le_refl _) _
      have HO := own_any x (.agg (sevenD x a1 a2 k1 k2).toArray) (wr.alloc (.cells (sevenD x a1 a2 k1 k2).toArray 70)) ⟨a1, a2, k1, k2, rfl, HX.out.2.1, HX.out.2.2.1, HX.out.2.2.2.1.below hbx, HX.out.2.2.2.2.1.below hbx⟩ (HS.out.2.2.2.2.2.2.1 x (List.mem_of_getElem? HX.out.1))
      obtain ⟨⟨y0, y1, y2, y3, y4, y5, y6⟩, _⟩ := Blk.seven (w := wr.alloc (.cells (sevenD x a1 a2 k1 k2).toArray 70)) (b := wr.heap.size) (T := 70) (Blk.new wr (sevenD x a1 a2 k1 k2).toArray _)
      have HBX := (show Hid _ from hbx)
      clear hbx
      unfold sevenD at HO y0 y1 y2 y3 y4 y5 y6
      go_wp2_with fail
      refine HO.mono ?_
      rintro e w5 ⟨⟨v, rfl, q1, q2, b1, b2, rfl, s1, s2, s3, s4⟩, hb5⟩
      have hzx : (wr.alloc (.cells (sevenD x a1 a2 k1 k2).toArray 70)).heap.size = wr.heap.size + 1 := by simp
      have hb6 : Below w5.heap.size w5 (w5.alloc (.cells (sevenD x q1 q2 b1 b2).toArray 70)) := (Below.refl _ _).alloc (Nat.le_refl _) _
      have hB5 : Below wr.heap.size wr w5 := HBX.out.trans (hb5.mono HBX.out.size)
      have hB6 : Below wr.heap.size wr (w5.alloc (.cells (sevenD x q1 q2 b1 b2).toArray 70)) := hB5.trans (hb6.mono hB5.size)
      have hwz := HX.out.2.2.2.2.2.1.size
      obtain ⟨xs, hrow0, hcel0⟩ := HX.out.2.2.2.2.2.2.1
      have hown : ∀ b, (Value.slice po j co).ownBlock = some b → W2.heap.size ≤ b ∧ b < wr.heap.size := fun b hb => HX.out.2.2.2.2.2.2.1.lt hb
      rw [HX.out.2.2.2.2.2.2.2] at hrow0
      have hrow : (w5.alloc (.cells (sevenD x q1 q2 b1 b2).toArray 70)).ownsRow W2.heap.size 70 7 (.slice po j co) j xs := ownsRow_keep hrow0 fun b hb => hB6.block b (hown b hb).2
      obtain ⟨g, cap7, w7, hrun, ho, hg, hat, hlt7⟩ := append_decl _ W2.heap.size _ j xs hrow w5.heap.size 1 x q1 q2 b1 b2 (Blk.new w5 _ _) (by omega) (by have := hB6.size; omega) 23
      have HR := (show Hid _ from hrun)
      have hz6 := hb6.size
      have hz5 := hb5.size
      have hnew : ∀ {q : Option Addr} {f : F}, SlO (fresh (wr.alloc (.cells (sevenD x a1 a2 k1 k2).toArray 70)).heap.size) w5 q f → SlO (fun b => (W2.heap.size ≤ b ∧ (Value.slice po j co).ownBlock ≠ some b) ∧ b < (w5.alloc (.cells (sevenD x q1 q2 b1 b2).toArray 70)).heap.size) (w5.alloc (.cells (sevenD x q1 q2 b1 b2).toArray 70)) q f := fun {q f} hs => by
        have h := hs.and hs.lt
        refine h.along (fun b h => ?_) fun b h => hb6.block b h.2
        have h1 : (wr.alloc (.cells (sevenD x a1 a2 k1 k2).toArray 70)).heap.size ≤ b := h.1
        have h2 : b < w5.heap.size := h.2
        exact ⟨⟨by omega, fun e => by have := (hown b e).2; omega⟩, by omega⟩
      have hcel : CellsD (fun b => (W2.heap.size ≤ b ∧ (Value.slice po j co).ownBlock ≠ some b) ∧ b < (w5.alloc (.cells (sevenD x q1 q2 b1 b2).toArray 70)).heap.size) (w5.alloc (.cells (sevenD x q1 q2 b1 b2).toArray 70)) (l.take j) xs :=
        hcel0.map fun {q f} hs => hs.along (fun b h => ⟨h.1, Nat.lt_of_lt_of_le h.2 hB6.size⟩) fun b h => hB6.block b h.2
      have HF : Hid (Below W2.heap.size W2 w7 ∧ DlIn W2.heap.size w7 (.slice (some ⟨g, 0, none⟩) (j + 1) cap7) (l.take (j + 1))) := by
        refine ⟨(HX.out.2.2.2.2.2.1.trans (hB6.mono hwz)).trans ⟨hg.os, hg.tape, hg.output, hg.size, fun k hk => hg.block k (by have := hB6.size; omega) fun e => by have := (hown k e.symm).1; omega⟩, ?_⟩
        have h := DlIn.snoc (l := l.take j) (v := .slice po j co) (xs := xs) hcel s1 s2 (hnew s3) (hnew s4) (by rw [HX.out.2.2.2.2.2.2.2]; exact ho) hg hat
        rw [HX.out.2.2.2.2.2.2.2] at h
        rw [List.take_add_one, HX.out.1]
        exact h
      unfold sevenD at HR ⊢
      clear hcel hnew hz5 hz6 hrun ho hg hat hlt7 hrow hrow0 hcel0 hown hwz hB6 hB5 hb6 hzx s1 s2 s3 s4 hb5 HO y0 y1 y2 y3 y4 y5 y6 x0 x1 x2 x3 x4 x5 x6
      go_wp2_with (first | (at_builtin; refine wpList_app_run rfl _ _ 23 23 rfl _ _ _ rfl rfl HR.out ?_))
      go_roundw
      case rel => exact ⟨j + 1, hlt, by go_num, HF.out.1, HF.out.2⟩
      case measure => simp [intOf]; omega
    · obtain rfl : j = n := by omega
      have hl0 := HS.out.2.2.2.2.2.2.2.2.2
      rw [List.take_of_length_le (by omega)] at hD
      obtain ⟨⟨x0, x1, x2, x3, x4, x5, x6⟩, _⟩ := Blk.seven (w := wr) (b := w.heap.size) (T := 70) (H2.out.2.1.below hb)
      have HD := dfurther_any s cf fu W2.heap.size l d r (.slice po j co) p1 p2 c1 c2 wr hD HS.out.2.2.2.1 HS.out.2.2.2.2.1 (HS.out.2.1.below hBw) (HS.out.2.2.1.below hBw) (HS.out.2.2.2.2.2.2.2.1.below hBw) HS.out.2.2.2.2.2.2.2.2.1 HS.out.2.2.2.2.2.1 hb.size
      have HB := (show Hid _ from hb)
      rw [HE.out.1, HE.out.2.1, HE.out.2.2] at HD
      unfold sevenD at HD
      clear hD hb hBw htk hl0
      go_wp2_with fail
      refine HD.mono ?_
      rintro e w8 ⟨v', rfl, hD8, hb8⟩
      have hb9 : Below W2.heap.size W2 w8 := HB.out.trans hb8
      have HB9 : Hid (DlIn W2.heap.size w8 v' L ∧ Below W2.heap.size W2 w8 ∧ Blk w8 (w.heap.size + 1) #[.int .i64 0, .int .i64 0] 40) := ⟨hD8, hb9, H2.out.2.2.1.below hb9⟩
      obtain ⟨u0, u1, f0, f1⟩ := HB9.out.2.2.two
      clear hD8 hb8 hb9 HD x0 x1 x2 x3 x4 x5 x6
      go_wp2_with fail
      obtain ⟨d0, d1, _, _⟩ := (HB9.out.2.2.set2 (.int .i64 ez) (.int .i64 pz)).two
      have hDF : DlIn w.heap.size ((w8.setCell ⟨w.heap.size + 1, 0, none⟩ (.int .i64 ez)).setCell ⟨w.heap.size + 1, 1, none⟩ (.int .i64 pz)) v' L := by
        obtain ⟨xs, h1, h2⟩ := HB9.out.1
        have hz := H2.out.2.2.2
        have h : DlIn W2.heap.size ((w8.setCell ⟨w.heap.size + 1, 0, none⟩ (.int .i64 ez)).setCell ⟨w.heap.size + 1, 1, none⟩ (.int .i64 pz)) v' L :=
          DlIn.wrote h1 (h2.map fun {q f} hs => hs.mono fun b h => ⟨h, by have := h.1.1; omega⟩) (fun e => by have := (HB9.out.1.lt e).1; omega) _ _
        exact h.mono (by omega)
      have hBF : Below w.heap.size w ((w8.setCell ⟨w.heap.size + 1, 0, none⟩ (.int .i64 ez)).setCell ⟨w.heap.size + 1, 1, none⟩ (.int .i64 pz)) := ((H2.out.1.trans (HB9.out.2.1.mono H2.out.1.size)).setCell (by simp) _).setCell (by simp) _
      exact bodyPost_ret (v := .tuple #[v', .agg #[.int .i64 ez, .int .i64 pz]]) (by simp [results, Tryz.results28, go_sem, d0, d1]) rfl ⟨_, rfl, hDF, hBF⟩
end Go.Proofs.YthfjmcomhccbaaaGreatDoor

namespace Go.Proofs.YthfjmcomhccbaaaGreatDoor
open Go.RowKit Tmx Evx
set_option maxRecDepth 60000

theorem makeStrs (n : Nat) (h : n ≤ 100000) (W : World) :
    (Instr.makeSlice 102 (.int .i64 n) (.int .i64 n)).run Tryz.prog W = .ok (.slice (some ⟨W.heap.size, 0, none⟩) n n) (W.alloc (.cells (madeCells #[.string ⟨#[]⟩] n) 9)) := by
  obtain ⟨i, hi, he⟩ := Option.map_eq_some_iff.1 i9
  simp only [Prod.mk.injEq] at he
  obtain ⟨hz, hs, hb⟩ := he
  have := run_make (P := Tryz.prog) W 102 9 i _ u50 hi hz .i64 .i64 (n : Int) (n : Int) (by omega) (by omega) (by rw [hb]; omega) (by omega)
  rw [hs, Int.toNat_natCast, Nat.mul_one] at this
  exact this
/-- The name number i; behind them none. -/
def nameV (l : List Dcl) (j i : Nat) : Value := if i < j then .string ⟨((l.map Dcl.nm).getD i []).toArray⟩ else .string ⟨#[]⟩

set_option maxHeartbeats 4000000 in
theorem dnames_any (l : List Dcl) (p : Option Addr) (cap : Nat) (w : World) (hl : DlAt w p l) (hc : l.length ≤ 1000) :
    Calls Tryz.prog 42 #[.slice p l.length cap] w fun e w' => (∃ q, e = .returned (.slice q l.length l.length) ∧ Tx w'.heap.size w' q (l.map Dcl.nm)) ∧ Below w.heap.size w w' := by
  obtain ⟨n, hn⟩ : ∃ n, l.length = n := ⟨_, rfl⟩
  have HL : Hid (l.length = n ∧ DlAt w p l) := ⟨hn, hl⟩
  have hmk := makeStrs n (by omega)
  rw [hn] at hc ⊢
  have hr0 : (w.alloc (.cells (madeCells #[.string ⟨#[]⟩] n) 9)).rowIs w.heap.size 9 n (nameV l 0) := (World.rowIs_made w (.string ⟨#[]⟩) n 9).congr fun i _ => by unfold nameV; rw [if_neg (by omega)]
  have HR0 := (show Hid _ from hr0)
  clear hn hl hr0
  go_enter Tryz.func42, Tryz.ntmps42
  go_wp2_with fail
  clear hmk
  go_loopw [11] (fun ix wr => ∃ j : Nat, j ≤ n ∧ ix = .int .i64 (j : Int) ∧ Below w.heap.size w wr ∧ wr.rowIs w.heap.size 9 n (nameV l j)) (fun ix _ => n - (intOf ix).toNat)
  case atStart => exact ⟨0, Nat.zero_le _, rfl, (Below.refl _ _).alloc (Nat.le_refl _) _, HR0.out⟩
  case round =>
    clear HR0
    obtain ⟨j, hj, rfl, hb, hR⟩ := hrel
    by_cases hlt : j < n
    · obtain ⟨d, hd⟩ : ∃ d, l[j]? = some d := ⟨_, List.getElem?_eq_getElem (by rw [HL.out.1]; exact hlt)⟩
      obtain ⟨b, o, p1, p2, c1, c2, rfl, hcell, _⟩ := (HL.out.2.below hb) j d hd
      obtain ⟨x0, x1, x2, x3, x4, x5, x6⟩ := seven_at hcell
      have HX := (show Hid _ from And.intro hd (And.intro hb hR))
      have hR' := hR.alloc (.cells (sevenD d p1 p2 c1 c2).toArray 70)
      have q0 := hR'.cell (i := j) hlt
      have q1 := hR'.frozen j
      have hlt0 := hR.lt
      obtain ⟨⟨y0, _, _, _, _, _, _⟩, _⟩ := Blk.seven (w := wr.alloc (.cells (sevenD d p1 p2 c1 c2).toArray 70)) (b := wr.heap.size) (T := 70) (Blk.new wr (sevenD d p1 p2 c1 c2).toArray _)
      unfold sevenD at q0 q1 y0
      clear hcell hd hb hR hR'
      go_wp2_with fail
      go_roundw
      case rel =>
        refine ⟨j + 1, hlt, by go_num, (HX.out.2.1.setCell (Nat.le_refl _) _).alloc (by simpa [World.setCell] using HX.out.2.1.size) _, ((HX.out.2.2.set j (.string ⟨d.nm.toArray⟩)).alloc _).congr fun i hi => ?_⟩
        by_cases hij : i = j
        · subst hij
          rw [if_pos rfl]
          unfold nameV
          rw [if_pos (by omega), List.getD_eq_getElem?_getD, List.getElem?_map, HX.out.1]
          rfl
        · rw [if_neg hij]
          unfold nameV
          by_cases h2 : i < j
          · rw [if_pos h2, if_pos (by omega)]
          · rw [if_neg h2, if_neg (by omega)]
      case measure => simp [intOf]; omega
    · obtain rfl : j = n := by omega
      go_wp2_with fail
      go_ret
      have hlen : (l.map Dcl.nm).length = j := by rw [List.length_map]; exact HL.out.1
      refine ⟨⟨_, rfl, w.heap.size, 0, fun _ => ⟨rfl, hR.lt⟩, fun i hi => ?_⟩, hb⟩
      rw [hlen] at hi
      rw [Nat.zero_add, hR.cell hi]
      unfold nameV
      rw [if_pos hi]
end Go.Proofs.YthfjmcomhccbaaaGreatDoor

namespace Go.Proofs.YthfjmcomhccbaaaGreatDoor
open Go.RowKit Tmx Evx
set_option maxRecDepth 60000

theorem peek_len (l : List UInt8) : (peekW l).length ≤ (skip l).length := by
  unfold peekW
  rw [List.length_take]
  omega
theorem toksN_short : ∀ (n : Nat) (l : List UInt8), ∀ x ∈ toksN n l, x.length ≤ l.length
  | 0, _, x, hx => by simp [toksN] at hx
  | n + 1, l, x, hx => by
    rw [toksN] at hx
    split at hx
    · simp at hx
    · rcases List.mem_cons.1 hx with rfl | h
      · exact Nat.le_trans (peek_len l) (skip_len l)
      · refine Nat.le_trans (toksN_short n _ x h) ?_
        unfold restW
        rw [List.length_drop]
        exact Nat.le_trans (Nat.sub_le _ _) (skip_len l)
theorem tk_short {l : List UInt8} (hl : l.length ≤ 1500) : Short (tk [] l) := by
  rw [← toks_eq]
  exact fun x hx => ⟨toks_full l x hx, Nat.le_trans (toksN_short _ l x hx) hl⟩
theorem NamesIn.tx {lo : Nat} {w : World} {p : Option Addr} {n cap : Nat} {ns : List (List UInt8)} (h : NamesIn lo w (.slice p n cap) ns) : Tx w.heap.size w p ns ∧ ns.length ≤ cap := by
  have hown := h.lt
  obtain ⟨g1, g2⟩ := h
  rcases g2 with ⟨e, h0⟩ | ⟨g, cap', cur, e, hg, hh, hn, hm, hs, ht⟩
  · have : ns = [] := List.eq_nil_of_length_eq_zero h0
    subst this
    exact ⟨Tx.nil _ _ _, Nat.zero_le _⟩
  · obtain ⟨rfl, rfl, rfl⟩ := Value.slice.inj e
    refine ⟨⟨g, 0, fun _ => ⟨rfl, (hown g rfl).2⟩, fun i hi => ?_⟩, hn⟩
    rw [Nat.zero_add, cell_of_row w g i cur 9 (0, 0) hh]
    have : (cur.toList.take (ns.length * 1))[i]? = (ns.map fun l => Value.string ⟨l.toArray⟩)[i]? := by rw [ht]
    rw [List.getElem?_take, if_pos (by omega), List.getElem?_map] at this
    simpa [List.getD_eq_getElem?_getD, List.getElem?_eq_getElem hi] using this

theorem eq_nil_some (a : Addr) (n c : Nat) (W : World) : (binOp .eql 102 (.slice (some a) n c) (.slice none 0 0)).run Tryz.prog W = .ok (.bool false) W := by kernel_rfl
set_option maxRecDepth 60000 in
set_option maxHeartbeats 1000000 in
theorem clone_any (r : Nat) (w : World) (p : Option Addr) (c : Nat) (ns : List (List UInt8)) (hS : Strs r w p ns) (hp : p = none → c = 0) (hlen : ns.length ≤ 1000000) :
    Calls Tryz.prog 77 #[.slice p ns.length c] w fun e w' => (∃ v, e = .returned v ∧ NamesIn w.heap.size w' v ns) ∧ Below w.heap.size w w' := by
  cases p with
  | none =>
    obtain rfl : ns = [] := by
      obtain ⟨b, o, h1, _⟩ := hS
      cases ns with
      | nil => rfl
      | cons x ns => exact absurd (h1 (by simp)).1 (by simp)
    rw [hp rfl]
    clear hp hS
    simp only [List.length_nil]
    have hnil : ∀ W : World, (binOp .eql 102 (.slice none 0 0) (.slice none 0 0)).run Tryz.prog W = .ok (.bool true) W := fun _ => by kernel_rfl
    go_enter Tryz.func77, Tryz.ntmps77
    go_wp2_with fail
    go_ret
    exact ⟨⟨_, rfl, World.ownsRow_nil w _ 9 1⟩, Below.refl _ _⟩
  | some a =>
    have hne := fun W => eq_nil_some a ns.length c W
    have hB : (w.alloc (.cells #[] 9)).heap[w.heap.size]? = some (.cells #[] 9 (0, 0)) := heap_alloc_new _ _
    have hbA : Below w.heap.size w (w.alloc (.cells #[] 9)) := (Below.refl _ _).alloc (Nat.le_refl _) _
    obtain ⟨v', w', hr, hN, hg⟩ := copy_names (w.alloc (.cells #[] 9)) w.heap.size r w.heap.size (some a) c ns hB (Nat.le_refl _) (hS.kept (.of_below hbA)) (by simp) hlen (by simp) 102
    have HRP : Hid ((Builtin.append_ #[102, 102] 102 #[.slice (some ⟨w.heap.size, 0, none⟩) 0 0, .slice (some a) ns.length c]).run Tryz.prog (w.alloc (.cells #[] 9)) = .ok v' w') := hr
    have hbw : Below w.heap.size w w' := ⟨hg.os, hg.tape, hg.output, by have := hg.size; simp at this; omega, fun k hk => by rw [hg.block k (by simp; omega) (by simp; omega)]; exact Below.heap_alloc _ _ _ hk⟩
    clear hr hp hS hB hbA hg
    go_enter Tryz.func77, Tryz.ntmps77
    go_wp2_with (first | (at_builtin; refine wpList_append_run rfl _ _ 102 rfl _ _ _ rfl rfl HRP.out ?_; clear HRP) | fail)
    go_ret
    exact ⟨⟨_, rfl, hN⟩, hbw⟩
theorem RowQ.toO {Q O : Nat → Prop} {w : World} (h : ∀ b, Q b → O b) : ∀ (f : F) (b o : Nat), RowQ Q w b o f → RowO O w b o f
  | .nil, _, _, _ => trivial
  | .node _ _ a l r, b, o, hr => by
    obtain ⟨h0, h1, h2, ⟨p, b', o', cap, h3, h4, h6⟩, h5⟩ := hr
    exact ⟨h b h0, h1, h2, ⟨p, b', o', cap, h3, h4, RowQ.toO h l b' o' h6⟩, RowQ.toO h r b (o + 3) h5⟩
theorem SlO.nilO (O : Nat → Prop) (w : World) (p : Option Addr) : SlO O w p .nil := ⟨0, 0, fun h => by simp [len] at h, trivial⟩
/-- What Parse answers. -/
def ParsePost (w : World) (x : (Int × Int × F) × Int) (e : Ending) (w' : World) : Prop :=
  (∃ p cap, len x.1.2.2 ≤ cap ∧ e = .returned (.tuple #[.agg #[.int .i64 x.1.1, .int .i64 x.1.2.1, .slice p (len x.1.2.2) cap], .int .i64 x.2]) ∧ SlO (fresh w.heap.size) w' p x.1.2.2) ∧ Below w.heap.size w w'

set_option maxRecDepth 60000 in
set_option maxHeartbeats 8000000 in
theorem pparse_any (w : World) (l : List UInt8) (ns ds : List (List UInt8)) (pn pd : Option Addr) (cn cd : Nat) (hn : Tx w.heap.size w pn ns) (hd : Tx w.heap.size w pd ds) (hv : Vs w.heap.size w) (hp : pn = none → cn = 0) (hl : l.length ≤ 4611686018427387904) (hn1 : ns.length ≤ 1152921504606846976) (hd1 : ds.length ≤ 1152921504606846976) :
    Calls Tryz.prog 59 #[.string ⟨l.toArray⟩, .slice pn ns.length cn, .slice pd ds.length cd] w (ParsePost w (ansK (parseK ds ns l))) := by
  have hb0 : Below w.heap.size w (w.alloc (.cells #[.int .i64 0, .int .i64 0, .slice none 0 0] 30)) := (Below.refl _ _).alloc (Nat.le_refl _) _
  have bx0 := Box.new w (.int .i64 0) (.int .i64 0) (.slice none 0 0)
  have hz0 : (w.alloc (.cells #[.int .i64 0, .int .i64 0, .slice none 0 0] 30)).heap.size = w.heap.size + 1 := by simp
  by_cases hl1 : 1500 < l.length
  · have HE : Hid (ansK (parseK ds ns l) = ((0, 0, .nil), 4)) := by unfold parseK; rw [if_pos hl1]; rfl
    go_enter Tryz.func59, Tryz.ntmps59
    go_wp2_with fail
    refine bodyPost_ret (v := .tuple #[.agg #[.int .i64 0, .int .i64 0, .slice none 0 0], .int .i64 4]) (by simp [results, Tryz.results59, go_sem]) rfl ?_
    rw [HE.out]
    exact ⟨⟨none, 0, Nat.zero_le _, rfl, SlO.nilO _ _ _⟩, hb0⟩
  · by_cases hn8 : 8 < ns.length
    · have HE : Hid (ansK (parseK ds ns l) = ((0, 0, .nil), 5)) := by unfold parseK; rw [if_neg hl1, if_pos hn8]; rfl
      go_enter Tryz.func59, Tryz.ntmps59
      go_wp2_with fail
      refine bodyPost_ret (v := .tuple #[.agg #[.int .i64 0, .int .i64 0, .slice none 0 0], .int .i64 5]) (by simp [results, Tryz.results59, go_sem]) rfl ?_
      rw [HE.out]
      exact ⟨⟨none, 0, Nat.zero_le _, rfl, SlO.nilO _ _ _⟩, hb0⟩
    · obtain ⟨res, hres⟩ : ∃ res, termK ds 24 ns (tk [] l) = res := ⟨_, rfl⟩
      have HP : Hid (parseK ds ns l = endK res) := by unfold parseK; rw [if_neg hl1, if_neg hn8, toks_eq, hres]; rfl
      have HRES : Hid (termK ds 24 ns (tk [] l) = res) := hres
      clear hres
      generalize parseK ds ns l = pk at HP ⊢
      have hshw : Short (tk [] l) := tk_short (by omega)
      go_enter Tryz.func59, Tryz.ntmps59
      go_wp2_with fail
      refine (words_any l _ (by omega)).mono ?_
      rintro e w1 ⟨⟨pw, cw, rfl, hW1⟩, hb1⟩
      obtain ⟨hT1, hcw⟩ := hW1.tx
      have hz1 := hb1.size
      rw [hz0] at hz1
      have hb01 : Below w.heap.size w w1 := hb0.trans (hb1.mono (by omega))
      have bx1 := bx0.below hb1
      clear hW1 hb1 bx0
      go_wp2_with fail
      refine (clone_any w1.heap.size w1 pn cn ns (Strs.of_tx (hn.along fun b _ hs => hb01.block b hs) hb01.size) hp (by omega)).mono ?_
      rintro e w2 ⟨⟨v, rfl, hN2⟩, hb2⟩
      obtain ⟨pb, cb, rfl⟩ := hN2.form
      have hz2 := hb2.size
      have hb02 : Below w.heap.size w w2 := hb01.trans (hb2.mono (by omega))
      have bx2 := bx1.below hb2
      have hbR : Below w2.heap.size w2 (w2.alloc (.cells #[.slice pw (tk [] l).length cw, .slice pb ns.length cb, .slice pd ds.length cd] 136)) := (Below.refl _ _).alloc (Nat.le_refl _) _
      have hb03 : Below w.heap.size w (w2.alloc (.cells #[.slice pw (tk [] l).length cw, .slice pb ns.length cb, .slice pd ds.length cd] 136)) := hb02.trans (hbR.mono (by omega))
      have hb13 : Below w1.heap.size w1 (w2.alloc (.cells #[.slice pw (tk [] l).length cw, .slice pb ns.length cb, .slice pd ds.length cd] 136)) := hb2.trans (hbR.mono (by omega))
      have hRS : RS w1.heap.size w2.heap.size (w2.alloc (.cells #[.slice pw (tk [] l).length cw, .slice pb ns.length cb, .slice pd ds.length cd] 136)) (tk [] l) ns ds (.slice pb ns.length cb) := by
        refine ⟨⟨pw, cw, pd, cd, heap_alloc_new _ _, hT1.along fun b _ hs => hb13.block b hs, hcw, (hd.along fun b _ hs => hb03.block b hs).mono (by omega)⟩, hN2.along fun b _ hs => hbR.block b hs, fun e => ?_, hz2, ?_⟩
        · have := (hN2.lt _ e).2
          omega
        · have h1 := hv.below hb03
          exact ⟨by have := hv.1; omega, h1.2⟩
      have bx3 := bx2.below hbR
      have hz3 : (w2.alloc (.cells #[.slice pw (tk [] l).length cw, .slice pb ns.length cb, .slice pd ds.length cd] 136)).heap.size = w2.heap.size + 1 := by simp
      have HTC : Hid (Calls Tryz.prog 78 #[.pointer (some ⟨w2.heap.size, 0, none⟩), .int .i64 0] (w2.alloc (.cells #[.slice pw (tk [] l).length cw, .slice pb ns.length cb, .slice pd ds.length cd] 136)) (TermPost w1.heap.size w2.heap.size ds ns (w2.alloc (.cells #[.slice pw (tk [] l).length cw, .slice pb ns.length cb, .slice pd ds.length cd] 136)) (.slice pb ns.length cb) res)) := by
        have h1 := term_all ds hd1 24 (Nat.le_refl _) w1.heap.size w2.heap.size _ (tk [] l) ns _ hRS hshw (by omega)
        rw [HRES.out] at h1
        exact h1
      have hvl : ∀ b, (Value.slice pb ns.length cb).ownBlock = some b → w1.heap.size ≤ b ∧ b < w2.heap.size := fun b e => hN2.lt b e
      clear HRES hRS hT1 hN2 bx1 bx2 hb2 hb13
      go_wp2_with fail
      refine HTC.out.mono ?_
      clear HTC
      rintro e w4 ⟨hkb, ws', ns', v', hS4, hon, hres⟩
      have hz4 := hkb.size
      have bx4 := hkb.box (by omega) (fun e => by have := (hvl _ e).1; omega) bx3
      have hb04 : Below w.heap.size w w4 := hb03.trans (hkb.below (by omega) (by omega) (fun b e => by have := (hvl b e).1; omega))
      have hbl := bx4.lt
      obtain ⟨b0, b1, b2, g0, g1, g2⟩ := bx4.facts
      clear bx3 hb03 hkb hbR
      cases res with
      | error y =>
        obtain ⟨rfl, hy0, hln⟩ := hres
        have HE : Hid (ansK pk = ((0, 0, .nil), y)) := by rw [HP.out]; rfl
        have ty : (y == 0) = false := by simpa using hy0
        clear hS4
        go_wp2_with fail
        obtain ⟨d0, d1, d2, _, _, _⟩ := ((bx4.set (.int .i64 0) (.int .i64 0) (.slice none 0 0)).alloc (.cells #[.int .i64 0, .int .i64 0, .slice none 0 0] 30)).facts
        refine bodyPost_ret (v := .tuple #[.agg #[.int .i64 0, .int .i64 0, .slice none 0 0], .int .i64 y]) (by simp [results, Tryz.results59, go_sem, d0, d1, d2]) rfl ?_
        rw [HE.out]
        refine ⟨⟨none, 0, Nat.zero_le _, rfl, SlO.nilO _ _ _⟩, (((hb04.setCell (Nat.le_refl _) _).setCell (Nat.le_refl _) _).setCell (Nat.le_refl _) _).alloc (by simp [World.setCell]; omega) _⟩
      | ok tr =>
        obtain ⟨t, rest⟩ := tr
        obtain ⟨rfl, rfl, p, ⟨cap, hcap⟩, hve, hsl⟩ := hres
        dsimp only at hve
        subst hve
        have HCAP := (show Hid _ from hcap)
        clear hcap
        have hrl4 := hS4.lt
        obtain ⟨pw4, cw4, pd4, cd4, r4, _, _, _⟩ := hS4.blk
        obtain ⟨c0, c1, c2, f0, f1, f2⟩ := r4.facts
        cases ws' with
        | nil =>
          rw [List.length_nil] at c0
          have HE : Hid (ansK pk = (t, 0)) := by rw [HP.out]; rfl
          clear hS4 r4
          go_wp2_with fail
          obtain ⟨d0, d1, d2, _, _, _⟩ := ((bx4.set (.int .i64 t.1) (.int .i64 t.2.1) (.slice p (len t.2.2) cap)).alloc (.cells #[.int .i64 t.1, .int .i64 t.2.1, .slice p (len t.2.2) cap] 30)).facts
          refine bodyPost_ret (v := .tuple #[.agg #[.int .i64 t.1, .int .i64 t.2.1, .slice p (len t.2.2) cap], .int .i64 0]) (by simp [results, Tryz.results59, go_sem, d0, d1, d2]) rfl ?_
          rw [HE.out]
          refine ⟨⟨p, cap, HCAP.out, rfl, ?_⟩, (((hb04.setCell (Nat.le_refl _) _).setCell (Nat.le_refl _) _).setCell (Nat.le_refl _) _).alloc (by simp [World.setCell]; omega) _⟩
          have hsq : SlQ (fun b => w.heap.size + 1 ≤ b) w4 p t.2.2 := hsl.along fun b o u hq hu => ⟨by have := hq.1; omega, hu⟩
          obtain ⟨b, o, h1, h2⟩ := (SlQ.three hsq (B := w.heap.size) (by omega) (.int .i64 t.1) (.int .i64 t.2.1) (.slice p (len t.2.2) cap)).along (Q' := fun b => w.heap.size ≤ b) (w' := World.alloc _ (.cells #[.int .i64 t.1, .int .i64 t.2.1, .slice p (len t.2.2) cap] 30)) fun b o u hq hu => ⟨by omega, below_some ((Below.refl _ _).alloc (Nat.le_refl _) _) b o u hu⟩
          exact ⟨b, o, h1, RowQ.toO (fun _ h => h) _ _ _ h2⟩
        | cons x ws' =>
          have HE : Hid (ansK pk = ((0, 0, .nil), 2)) := by rw [HP.out]; rfl
          rw [List.length_cons] at c0
          clear hS4 r4
          go_wp2_with fail
          obtain ⟨d0, d1, d2, _, _, _⟩ := ((bx4.set (.int .i64 0) (.int .i64 0) (.slice none 0 0)).alloc (.cells #[.int .i64 t.1, .int .i64 t.2.1, .slice p (len t.2.2) cap] 30)).facts
          refine bodyPost_ret (v := .tuple #[.agg #[.int .i64 0, .int .i64 0, .slice none 0 0], .int .i64 2]) (by simp [results, Tryz.results59, go_sem, d0, d1, d2]) rfl ?_
          rw [HE.out]
          refine ⟨⟨none, 0, Nat.zero_le _, rfl, SlO.nilO _ _ _⟩, (((hb04.setCell (Nat.le_refl _) _).setCell (Nat.le_refl _) _).setCell (Nat.le_refl _) _).alloc (by simp [World.setCell]; omega) _⟩
end Go.Proofs.YthfjmcomhccbaaaGreatDoor
