/-
  Contracts of package infer: leave, maker, value.
-/
/-
  Contracts of package infer: check, sort, sortWith, by what infer does.
-/
/-
  Contracts of package infer: leave as a deferred call; sortWith.
-/
/-
  Contracts of package infer: number, family, function.
-/
import Derived.Test.YthfjmcomhccbaaaGreatDoorC4m
import Derived.Defers
namespace Go.Proofs.YthfjmcomhccbaaaGreatDoor
open Go.RowKit Tmx Evx
set_option maxRecDepth 60000

theorem RowL.ste {g g' : Gh} {w w' : World} (hi : Inv g w) (hs : Ste g w g' w') {p : Option Addr} {l : List Th} (h : RowL g w p l) : RowL g' w' p l := fun h0 => by
  obtain ⟨b, cs, e, hB, hx⟩ := RowL.keep hi hs.keep h h0
  exact ⟨b, cs, e, hB, fun i t ht => by
    obtain ⟨x, h1, q, h2, h3⟩ := hx i t ht
    exact ⟨x, h1, q, h2, hs.le.l _ _ h3⟩⟩

/-- Behind the last ones being taken off what is bound. -/
theorem scope_cut {g0 g : Gh} {w0 w : World} {bs : Nat} {vd : Ds} {pm : Nat} {vt : Value} {D : List (Int × Int × F)} {Ts Us : List Th} (hs : Ste g0 w0 g w) (hH : ScopeIn g w0 w bs vd pm vt D (Ts ++ Us)) (hU : 0 < Us.length) :
    ∃ q cap, vt = .slice (some ⟨q, 0, none⟩) (Ts.length + Us.length) cap ∧ Ts.length + Us.length ≤ cap ∧
      ∀ w1, Below w.heap.size w w1 → Ste g0 w0 g (w1.setCell ⟨bs, 2, none⟩ (.slice (some ⟨q, 0, none⟩) Ts.length cap)) ∧ ScopeIn g w0 (w1.setCell ⟨bs, 2, none⟩ (.slice (some ⟨q, 0, none⟩) Ts.length cap)) bs vd pm (.slice (some ⟨q, 0, none⟩) Ts.length cap) D Ts ∧ Mor g w g (w1.setCell ⟨bs, 2, none⟩ (.slice (some ⟨q, 0, none⟩) Ts.length cap)) := by
  obtain ⟨xs, ⟨h1, h2⟩, h3⟩ := hH.types
  rw [List.length_append] at h1 h2
  rcases h2 with ⟨_, h0⟩ | ⟨q, cap, cur, ev, hlo, hh, hn, hm, hz, ht⟩
  · omega
  refine ⟨q, cap, ev, hn, fun w1 hb => ?_⟩
  have ho : w.ownsRow w0.heap.size 43 1 (.slice (some ⟨q, 0, none⟩) Ts.length cap) Ts.length (xs.take Ts.length) := by
    refine ⟨by rw [List.length_take]; omega, .inr ⟨q, cap, cur, rfl, hlo, hh, by omega, hm, hz, ?_⟩⟩
    rw [← ht, List.take_take, Nat.mul_one, Nat.mul_one, Nat.min_eq_left (by omega)]
  have hs1 : Ste g w g w1 := .below hs.inv hb
  have hI := hH.ste hs.inv hs1
  have hqm : Own1 g q := hH.tmy q (by rw [ev]; rfl)
  have hqb : q ≠ bs := Blk.ne (w := w) (x := cur) (T := 43) hh hH.blk (by decide)
  have hq1 : w1.heap[q]? = w.heap[q]? := hb.block _ (Blk.lt (cs := cur) (T := 43) hh)
  have hmo : Mor g w1 g (w1.setCell ⟨bs, 2, none⟩ (.slice (some ⟨q, 0, none⟩) Ts.length cap)) := .own hs1.inv (P := fun b => b = bs) (fun b h => h ▸ hI.my) fun b _ hn => Below.heap_setCell _ _ _ _ hn
  refine ⟨(hs.trans hs1).setCell hI.lo hI.my.1 hI.my.2 _, ⟨hI.lo, hI.my, hI.blk.set32 _, hI.mker.along hmo, hI.tys.mor hmo, ⟨_, ownsRow_keep ho fun b h => ?_, h3.split⟩, fun b h => ?_⟩, (hs1.mor hs.inv).trans hmo⟩
  · obtain rfl : q = b := by simpa [Value.ownBlock] using h
    rw [Below.heap_setCell _ _ _ _ hqb]
    exact hq1
  · obtain rfl : q = b := by simpa [Value.ownBlock] using h
    exact hqm

set_option maxHeartbeats 4000000 in
theorem leave_any (bs many : Nat) (vd : Ds) (D : List (Int × Int × F)) (Ts Us : List Th) (g0 g : Gh) (w0 w : World) (hs : Ste g0 w0 g w) (hH : ScopeAt g w0 w bs vd D (Ts ++ Us)) (hU : Us.length = many) (hm : 0 < many) (hc : Ts.length + many ≤ 1000000) :
    Calls Tryz.prog 171 #[ptr bs, .int .i64 (many : Int)] w fun e w' => e = .returned (.tuple #[]) ∧ ScopeP g0 w0 g w bs vd D Ts g w' := by
  obtain ⟨pm, vt, hH⟩ := hH
  obtain ⟨q, cap, rfl, hcap, hcut⟩ := scope_cut hs hH (by omega)
  obtain ⟨hs2, hI2, hM2⟩ := hcut w.drew (Below.refl _ w).drew
  rw [hU] at hcap
  obtain ⟨c0, c1, c2, f0, f1, f2⟩ := hH.blk.three
  rw [hU] at c2
  obtain ⟨m, hm2⟩ : ∃ m, Ts.length = m := ⟨_, rfl⟩
  simp only [hm2] at hs2 hI2 hM2 hcap c2 hc
  have HP : Hid (ScopeP g0 w0 g w bs vd D Ts g (w.drew.setCell ⟨bs, 2, none⟩ (.slice (some ⟨q, 0, none⟩) m cap))) := ⟨hs2, hM2, _, _, hI2⟩
  unfold ptr at *
  clear hcut hs hH hs2 hI2 hM2 hm2 c0 c1 hU
  go_enter Tryz.func171, Tryz.ntmps171
  go_wp2_with fail
  go_region
  go_wp2_with fail
  refine bodyPost_end (v := .tuple #[]) (by simp [results, Tryz.results171, go_sem]) rfl ⟨rfl, HP.out⟩

set_option maxHeartbeats 4000000 in
theorem maker_any (bs : Nat) (vd : Ds) (D : List (Int × Int × F)) (Ts : List Th) (g0 g : Gh) (w0 w : World) (hs : Ste g0 w0 g w) (hH : ScopeAt g w0 w bs vd D Ts) :
    Calls Tryz.prog 145 #[ptr bs] w fun e w' => ∃ g' b, e = .returned (ptr b) ∧ Ste g w g' w' ∧ ScopeP g0 w0 g w bs vd D Ts g' w' ∧ MkIs g' w' b ⟨(Ts.length : Int), 0, D⟩ := by
  obtain ⟨pm, vt, hH⟩ := hH
  obtain ⟨p, cap, rfl, _⟩ := hH.form
  have hd := Ste.drew hs.inv
  have hH2 := hH.ste hs.inv hd
  have HW := where_any pm ⟨0, 0, D⟩ (Ts.length : Int) g w.drew hd.inv hH2.mker
  obtain ⟨c0, c1, c2, _, _, _⟩ := hH.blk.three
  have HP : Hid (Ste g0 w0 g w ∧ Ste g w g w.drew ∧ ScopeIn g w0 w.drew bs vd pm (.slice p Ts.length cap) D Ts) := ⟨hs, hd, hH2⟩
  unfold ptr at *
  clear hs hH hd hH2
  go_enter Tryz.func145, Tryz.ntmps145
  go_wp2_with fail
  go_region_held3 (fun w' => w'.cell? ⟨bs, 1, none⟩ = some (.pointer (some ⟨pm, 0, none⟩)) ∧ w'.cell? ⟨bs, 2, none⟩ = some (.slice p Ts.length cap)) (go_keep)
    (first
      | (go_at_call 167; refine HW.mono ?_; rintro e w3 ⟨g3, b3, rfl, hs4, hm4⟩; have h5 := HP.out.2.2.ste HP.out.2.1.inv hs4; obtain ⟨_, r1, r2, _, _, _⟩ := h5.blk.three; unfold ptr at r1; have HT : Hid (Ste g w g3 w3 ∧ ScopeP g0 w0 g w bs vd D Ts g3 w3 ∧ MkIs g3 w3 b3 ⟨(Ts.length : Int), 0, D⟩) := ⟨HP.out.2.1.trans hs4, ⟨HP.out.1.trans (HP.out.2.1.trans hs4), (HP.out.2.1.trans hs4).mor HP.out.1.inv, _, _, h5⟩, hm4⟩; clear h5 hs4 hm4))
  go_wp2_with fail
  refine bodyPost_ret (v := .pointer (some ⟨b3, 0, none⟩)) (by simp [results, Tryz.results145, go_sem]) rfl ⟨g3, b3, rfl, HT.out⟩

set_option maxHeartbeats 4000000 in
theorem sval_any (bs tb o : Nat) (k n : Int) (f : F) (q : Option Addr) (cap : Nat) (l : List Th) (vd : Ds) (D : List (Int × Int × F)) (Ts : List Th) (g0 g : Gh) (w0 w : World) (hs : Ste g0 w0 g w) (hH : ScopeAt g w0 w bs vd D Ts) (hc : Ts.length ≤ 1000000)
    (ht : TmAt g.o w tb o k n f) (hr : RowL g w q l) (hl : l.length ≤ 1000) (hn : k = 1 → 0 ≤ n ∧ n ≤ 1099511627776) :
    Calls Tryz.prog 133 #[ptr bs, .pointer (some ⟨tb, o, none⟩), .slice q l.length cap] w fun e w' => ∃ g' b, e = .returned (ptr b) ∧ Ste g w g' w' ∧ ScopeP g0 w0 g w bs vd D Ts g' w' ∧ g'.l b = some (later ⟨(Ts.length : Int), 0, D⟩ k n f l.reverse) := by
  have HM := maker_any bs vd D Ts g0 g w0 w hs hH
  have HS : Hid (Inv g w ∧ TmAt g.o w tb o k n f ∧ RowL g w q l) := ⟨hs.inv, ht, hr⟩
  have hb : mild (Ts.length : Int) = true := by simp only [mild, Bool.and_eq_true, decide_eq_true_eq]; omega
  unfold ptr at *
  clear hs hH ht hr
  go_enter Tryz.func133, Tryz.ntmps133
  go_wp2_with fail
  refine HM.mono ?_
  rintro e w2 ⟨g2, b2, rfl, hs2, hP2, hm2⟩
  have HL := mlater_any b2 tb o ⟨(Ts.length : Int), 0, D⟩ k n f q cap l g2 w2 hs2.inv hm2 (HS.out.2.1.mor (hs2.mor HS.out.1)) (HS.out.2.2.ste HS.out.1 hs2) (by omega) (fun e => ⟨(hn e).1, (hn e).2, hb⟩)
  have HT : Hid (Ste g w g2 w2 ∧ ScopeP g0 w0 g w bs vd D Ts g2 w2) := ⟨hs2, hP2⟩
  unfold ptr at *
  clear hs2 hP2 hm2 HM hb hn
  go_wp2_with fail
  refine HL.mono ?_
  rintro e w3 ⟨g3, b3, rfl, hs3, hl3⟩
  have HF : Hid (Ste g w g3 w3 ∧ ScopeP g0 w0 g w bs vd D Ts g3 w3 ∧ g3.l b3 = some (later ⟨(Ts.length : Int), 0, D⟩ k n f l.reverse)) :=
    ⟨HT.out.1.trans hs3, HT.out.2.then hs3, hl3⟩
  unfold ptr
  clear hs3 hl3 HL
  go_wp2_with fail
  refine bodyPost_ret (v := .pointer (some ⟨b3, 0, none⟩)) (by simp [results, Tryz.results133, go_sem]) rfl ⟨g3, b3, rfl, HF.out⟩
end Go.Proofs.YthfjmcomhccbaaaGreatDoor

namespace Go.Proofs.YthfjmcomhccbaaaGreatDoor
open Go.RowKit Tmx Evx
set_option maxRecDepth 60000

/-- What is found of a term, so many being bound: its type. -/
abbrev Finds := List Th → Int → Int → F → Option Th
def checkV (s cf : Nat) (rec : Finds) (Ts : List Th) (k n : Int) (f : F) (want : Th) : Bool :=
  match rec Ts k n f with
  | some T => sameTypeV (ev s) cf Ts.length T want == some true
  | none => false
def sortV (s : Nat) (rec : Finds) (Ts : List Th) (k n : Int) (f : F) : Option Int :=
  match rec Ts k n f with
  | some T => match ev s T with
    | some v => if v.is 2 0 = true then some v.num else none
    | none => none
  | none => none

/-- What infer does, of whatever the function knows. -/
def InfersP (rec : Finds) (vd : Ds) (D : List (Int × Int × F)) : Prop :=
  ∀ (bs tb o : Nat) (k n : Int) (f : F) (Ts : List Th) (T : Th) (g0 g : Gh) (w0 w : World), Ste g0 w0 g w → ScopeAt g w0 w bs vd D Ts → Ts.length ≤ 100000 → TmAt g.o w tb o k n f → rec Ts k n f = some T →
    Calls Tryz.prog 143 #[ptr bs, .pointer (some ⟨tb, o, none⟩)] w fun e w' => ∃ g' b, e = .returned (.tuple #[ptr b, .int .i64 0]) ∧ ScopeP g0 w0 g w bs vd D Ts g' w' ∧ g'.l b = some T

set_option maxHeartbeats 4000000 in
theorem check_any {rec : Finds} {vd : Ds} {D : List (Int × Int × F)} (hI : InfersP rec vd D) (s cf bs tb o qw : Nat) (k n : Int) (f : F) (Ts : List Th) (want : Th) (g0 g : Gh) (w0 w : World) (hs : Ste g0 w0 g w) (hH : ScopeAt g w0 w bs vd D Ts) (hT : Ts.length ≤ 100000)
    (ht : TmAt g.o w tb o k n f) (hw : g.l qw = some want) (hcf : cf ≤ 400000) (hc : checkV s cf rec Ts k n f want = true) :
    Calls Tryz.prog 132 #[ptr bs, .pointer (some ⟨tb, o, none⟩), ptr qw] w fun e w' => ∃ g', e = .returned (.int .i64 0) ∧ ScopeP g0 w0 g w bs vd D Ts g' w' := by
  obtain ⟨T, hr, hsame⟩ : ∃ T, rec Ts k n f = some T ∧ sameTypeV (ev s) cf Ts.length T want = some true := by
    unfold checkV at hc
    cases e : rec Ts k n f with
    | none => rw [e] at hc; cases hc
    | some T => rw [e] at hc; exact ⟨T, rfl, by simpa using hc⟩
  have HI := hI bs tb o k n f Ts T g0 g w0 w hs hH hT ht hr
  have HS : Hid (sameTypeV (ev s) cf Ts.length T want = some true ∧ g.l qw = some want) := ⟨hsame, hw⟩
  unfold ptr at *
  clear hI hs hH ht hw hc hr hsame
  go_enter Tryz.func132, Tryz.ntmps132
  go_wp2_with fail
  refine HI.mono ?_
  rintro e w2 ⟨g2, b2, rfl, hP, hl⟩
  obtain ⟨pm, vt, hA⟩ := hP.at_
  obtain ⟨p, cap, rfl, _⟩ := hA.form
  obtain ⟨_, _, c2, _, _, _⟩ := hA.blk.three
  have HC := sameTypeValues_any s cf b2 qw Ts.length cap p T want g2 w2 hP.ste.inv hl (hP.mor.l _ _ HS.out.2) hcf (by omega) true HS.out.1
  have HP := (show Hid _ from hP)
  unfold ptr at *
  clear hP hl hA HI
  go_wp2_with fail
  refine HC.mono ?_
  rintro e w3 ⟨rfl, g3, hs3⟩
  have HF : Hid (ScopeP g0 w0 g w bs vd D Ts g3 w3) := HP.out.then hs3
  clear hs3 HC c2
  go_wp2_with fail
  refine bodyPost_ret (v := .int .i64 0) (by simp [results, Tryz.results132, go_sem]) rfl ⟨g3, rfl, HF.out⟩

set_option maxHeartbeats 4000000 in
theorem sort_any {rec : Finds} {vd : Ds} {D : List (Int × Int × F)} (hI : InfersP rec vd D) (s bs tb o : Nat) (k n h : Int) (f : F) (Ts : List Th) (g0 g : Gh) (w0 w : World) (hs : Ste g0 w0 g w) (hH : ScopeAt g w0 w bs vd D Ts) (hT : Ts.length ≤ 100000)
    (ht : TmAt g.o w tb o k n f) (hc : sortV s rec Ts k n f = some h) :
    Calls Tryz.prog 131 #[ptr bs, .pointer (some ⟨tb, o, none⟩)] w fun e w' => ∃ g', e = .returned (.tuple #[.int .i64 h, .int .i64 0]) ∧ ScopeP g0 w0 g w bs vd D Ts g' w' := by
  obtain ⟨T, v, hr, hv, hu, rfl⟩ : ∃ T v, rec Ts k n f = some T ∧ ev s T = some v ∧ v.is 2 0 = true ∧ v.num = h := by
    unfold sortV at hc
    cases e : rec Ts k n f with
    | none => rw [e] at hc; cases hc
    | some T =>
      cases e2 : ev s T with
      | none => simp only [e, e2] at hc; cases hc
      | some v =>
        simp only [e, e2] at hc
        by_cases e3 : v.is 2 0 = true
        · rw [if_pos e3] at hc
          exact ⟨T, v, rfl, e2, e3, Option.some.inj hc⟩
        · rw [if_neg e3] at hc; cases hc
  have HI := hI bs tb o k n f Ts T g0 g w0 w hs hH hT ht hr
  have HS : Hid (ev s T = some v ∧ v.is 2 0 = true) := ⟨hv, hu⟩
  unfold ptr at *
  clear hI hs hH ht hc hr hv hu
  go_enter Tryz.func131, Tryz.ntmps131
  go_wp2_with fail
  refine HI.mono ?_
  rintro e w2 ⟨g2, b2, rfl, hP, hl⟩
  have HN := now_any b2 T v g2 w2 hP.ste.inv hl ⟨s, HS.out.1⟩
  have HP := (show Hid _ from hP)
  unfold ptr at *
  clear hP hl HI
  go_wp2_with fail
  refine HN.mono ?_
  rintro e w3 ⟨g3, q3, rfl, hs3, hv3⟩
  have HF : Hid (ScopeP g0 w0 g w bs vd D Ts g3 w3) := HP.out.then hs3
  have HU : Calls Tryz.prog 21 #[.pointer (some ⟨q3, 0, none⟩), .int .i64 2, .int .i64 0] w3 fun e w' => e = .returned (.bool true) ∧ w' = w3 := HS.out.2 ▸ is_any q3 v 2 0 g3 w3 hs3.inv hv3
  obtain ⟨_, _, _, n1, _, _⟩ := (hs3.inv.v q3 v hv3).cells
  unfold ptr at *
  clear hs3 hv3 HN
  go_wp2_with (first | ((with_reducible refine HU.mono ?_); rintro e w4 ⟨rfl, rfl⟩))
  refine bodyPost_ret (v := .tuple #[.int .i64 v.num, .int .i64 0]) (by simp [results, Tryz.results131, go_sem]) rfl ⟨g3, rfl, HF.out⟩
end Go.Proofs.YthfjmcomhccbaaaGreatDoor

namespace Go.Proofs.YthfjmcomhccbaaaGreatDoor
open Go.RowKit Tmx Evx
set_option maxRecDepth 60000

set_option maxHeartbeats 4000000 in
theorem leave_d (bs many : Nat) (vd : Ds) (D : List (Int × Int × F)) (Ts Us : List Th) (g0 g : Gh) (w0 w : World) (hs : Ste g0 w0 g w) (hH : ScopeAt g w0 w bs vd D (Ts ++ Us)) (hU : Us.length = many) (hm : 0 < many) (hc : Ts.length + many ≤ 1000000) (u : FrameMode) :
    CallsD Tryz.prog 171 #[ptr bs, .int .i64 (many : Int)] u w fun e u' w' => u' = u ∧ (e = .returned (.tuple #[]) ∧ ScopeP g0 w0 g w bs vd D Ts g w') := by
  obtain ⟨pm, vt, hH⟩ := hH
  obtain ⟨q, cap, rfl, hcap, hcut⟩ := scope_cut hs hH (by omega)
  obtain ⟨hs2, hI2, hM2⟩ := hcut w.drew (Below.refl _ w).drew
  rw [hU] at hcap
  obtain ⟨c0, c1, c2, f0, f1, f2⟩ := hH.blk.three
  rw [hU] at c2
  obtain ⟨m, hm2⟩ : ∃ m, Ts.length = m := ⟨_, rfl⟩
  simp only [hm2] at hs2 hI2 hM2 hcap c2 hc
  have HP : Hid (ScopeP g0 w0 g w bs vd D Ts g (w.drew.setCell ⟨bs, 2, none⟩ (.slice (some ⟨q, 0, none⟩) m cap))) := ⟨hs2, hM2, _, _, hI2⟩
  unfold ptr at *
  clear hcut hs hH hs2 hI2 hM2 hm2 c0 c1 hU
  go_enter_d Tryz.func171, Tryz.ntmps171
  go_wp2_with fail
  go_region
  go_wp2_with fail
  refine bodyPost_end (v := .tuple #[]) (by simp [results, Tryz.results171, go_sem]) rfl ⟨rfl, HP.out⟩

set_option maxHeartbeats 4000000 in
theorem sortWith_any {rec : Finds} {vd : Ds} {D : List (Int × Int × F)} (hI : InfersP rec vd D) (s bs tb o qa : Nat) (k n h : Int) (f : F) (ta : Th) (Ts : List Th) (g0 g : Gh) (w0 w : World) (hs : Ste g0 w0 g w) (hH : ScopeAt g w0 w bs vd D Ts) (hT : Ts.length + 1 ≤ 100000)
    (ht : TmAt g.o w tb o k n f) (ha : g.l qa = some ta) (hc : sortV s rec (Ts ++ [ta]) k n f = some h) :
    Calls Tryz.prog 170 #[ptr bs, ptr qa, .pointer (some ⟨tb, o, none⟩)] w fun e w' => ∃ g', e = .returned (.tuple #[.int .i64 h, .int .i64 0]) ∧ ScopeP g0 w0 g w bs vd D Ts g' w' := by
  have HB := sbind_any bs qa vd ta D Ts g0 g w0 w hs hH ha (by omega)
  have HS : Hid (TmAt g.o w tb o k n f ∧ sortV s rec (Ts ++ [ta]) k n f = some h) := ⟨ht, hc⟩
  have HI := (show Hid _ from hI)
  unfold ptr at *
  clear hs hH ht ha hc hI
  go_enter_defers Tryz.func170, Tryz.ntmps170
  go_wp2_with fail
  refine HB.mono ?_
  rintro e w2 ⟨g2, b2, rfl, hP, _⟩
  have HR := sort_any HI.out s bs tb o k n h f (Ts ++ [ta]) g0 g2 w0 w2 hP.ste hP.at_ (by rw [List.length_append]; exact hT) (HS.out.1.mor hP.mor) HS.out.2
  have HP := (show Hid _ from hP)
  unfold ptr at *
  clear hP HB
  go_wp2_with fail
  refine HR.mono ?_
  rintro e w3 ⟨g3, rfl, hP3⟩
  have HL := leave_d bs 1 vd D Ts [ta] g0 g3 w0 w3 hP3.ste hP3.at_ rfl (by decide) (by omega) .returning
  have HP3 := (show Hid _ from hP3)
  unfold ptr at *
  clear hP3 HR
  go_wp2_with fail
  refine leaves_cons (f := 171) (args := #[.pointer (some ⟨bs, 0, none⟩), .int .i64 1]) (by simp) (by simp [go_sem]) ?_
  refine HL.mono ?_
  rintro e u' w4 ⟨rfl, rfl, hP4⟩
  exact ⟨.tuple #[.int .i64 h, .int .i64 0], by simp [results, Tryz.results170, go_sem], g3, rfl, hP4.ste, HP.out.mor.trans (HP3.out.mor.trans hP4.mor), hP4.at_⟩
end Go.Proofs.YthfjmcomhccbaaaGreatDoor

namespace Go.Proofs.YthfjmcomhccbaaaGreatDoor
open Go.RowKit Tmx Evx
set_option maxRecDepth 60000

theorem RowL.nil (g : Gh) (w : World) (p : Option Addr) : RowL g w p [] := fun h => absurd h (Nat.lt_irrefl 0)
/-- What a term is there, where nothing is bound behind. -/
def hereV (D : List (Int × Int × F)) (l : Nat) (k n : Int) (f : F) : Th := later ⟨(l : Int), 0, D⟩ k n f []

set_option maxHeartbeats 4000000 in
theorem number_any {rec : Finds} {vd : Ds} {D : List (Int × Int × F)} (hI : InfersP rec vd D) (s cf bs tb o : Nat) (k n : Int) (f : F) (Ts : List Th) (g0 g : Gh) (w0 w : World) (hs : Ste g0 w0 g w) (hH : ScopeAt g w0 w bs vd D Ts) (hT : Ts.length ≤ 100000)
    (ht : TmAt g.o w tb o k n f) (hcf : cf ≤ 400000) (hc : checkV s cf rec Ts k n f (.of (.mk 14 0 [])) = true) :
    Calls Tryz.prog 157 #[ptr bs, .pointer (some ⟨tb, o, none⟩)] w fun e w' => ∃ g' b, e = .returned (.tuple #[ptr b, .int .i64 0]) ∧ ScopeP g0 w0 g w bs vd D Ts g' w' ∧ g'.l b = some (.of (.mk 14 0 [])) := by
  have HO : Calls Tryz.prog 54 #[.int .i64 14, .slice none 0 0] w (LatP g w (.of (.mk 14 0 []))) := of_any 14 none 0 [] g w hs.inv (RowL.nil _ _ _) (Nat.zero_le _)
  have HS : Hid (Ste g0 w0 g w ∧ ScopeAt g w0 w bs vd D Ts ∧ TmAt g.o w tb o k n f ∧ checkV s cf rec Ts k n f (.of (.mk 14 0 [])) = true) := ⟨hs, hH, ht, hc⟩
  have HI := (show Hid _ from hI)
  unfold ptr at *
  clear hs hH ht hc hI
  go_enter Tryz.func157, Tryz.ntmps157
  go_wp2_with fail
  refine HO.mono ?_
  rintro e w2 ⟨g2, b2, rfl, hs2, hl2⟩
  have HP : Hid (ScopeP g0 w0 g w bs vd D Ts g2 w2) := .of HS.out.1 HS.out.2.1 hs2
  have HC := check_any HI.out s cf bs tb o b2 k n f Ts _ g0 g2 w0 w2 HP.out.ste HP.out.at_ hT (HS.out.2.2.1.mor HP.out.mor) hl2 hcf HS.out.2.2.2
  have HL := (show Hid _ from hl2)
  unfold ptr at *
  clear hs2 hl2 HO
  go_wp2_with fail
  refine HC.mono ?_
  rintro e w3 ⟨g3, rfl, hP3⟩
  have HF : Hid (ScopeP g0 w0 g w bs vd D Ts g3 w3 ∧ g3.l b2 = some (.of (.mk 14 0 []))) := ⟨HP.out.trans hP3, hP3.mor.l _ _ HL.out⟩
  clear hP3 HC
  go_wp2_with fail
  refine bodyPost_ret (v := .tuple #[.pointer (some ⟨b2, 0, none⟩), .int .i64 0]) (by simp [results, Tryz.results157, go_sem]) rfl ⟨g3, b2, rfl, HF.out.1, HF.out.2⟩

def familyV (s : Nat) (rec : Finds) (D : List (Int × Int × F)) (Ts : List Th) (a b : Int × Int × F) : Option Int :=
  match sortV s rec Ts a.1 a.2.1 a.2.2, sortV s rec (Ts ++ [hereV D Ts.length a.1 a.2.1 a.2.2]) b.1 b.2.1 b.2.2 with
  | some x, some y => some (if y < x then x else y)
  | _, _ => none

set_option maxHeartbeats 4000000 in
theorem family_any {rec : Finds} {vd : Ds} {D : List (Int × Int × F)} (hI : InfersP rec vd D) (s bs ta oa tb ob : Nat) (a b : Int × Int × F) (h : Int) (Ts : List Th) (g0 g : Gh) (w0 w : World) (hs : Ste g0 w0 g w) (hH : ScopeAt g w0 w bs vd D Ts) (hT : Ts.length + 1 ≤ 100000)
    (hta : TmAt g.o w ta oa a.1 a.2.1 a.2.2) (htb : TmAt g.o w tb ob b.1 b.2.1 b.2.2) (hn : a.1 = 1 → 0 ≤ a.2.1 ∧ a.2.1 ≤ 1099511627776) (hc : familyV s rec D Ts a b = some h) :
    Calls Tryz.prog 158 #[ptr bs, .pointer (some ⟨ta, oa, none⟩), .pointer (some ⟨tb, ob, none⟩)] w fun e w' => ∃ g' b, e = .returned (.tuple #[ptr b, .int .i64 0]) ∧ ScopeP g0 w0 g w bs vd D Ts g' w' ∧ g'.l b = some (.val (.mk 2 h [])) := by
  obtain ⟨x, y, hx, hy, hxy⟩ : ∃ x y, sortV s rec Ts a.1 a.2.1 a.2.2 = some x ∧ sortV s rec (Ts ++ [hereV D Ts.length a.1 a.2.1 a.2.2]) b.1 b.2.1 b.2.2 = some y ∧ (if y < x then x else y) = h := by
    unfold familyV at hc
    split at hc
    · rename_i x y hx hy
      exact ⟨x, y, hx, hy, Option.some.inj hc⟩
    · cases hc
  have H1 := sort_any hI s bs ta oa a.1 a.2.1 x a.2.2 Ts g0 g w0 w hs hH (by omega) hta hx
  have HS : Hid (TmAt g.o w ta oa a.1 a.2.1 a.2.2 ∧ TmAt g.o w tb ob b.1 b.2.1 b.2.2 ∧ sortV s rec (Ts ++ [hereV D Ts.length a.1 a.2.1 a.2.2]) b.1 b.2.1 b.2.2 = some y ∧ (a.1 = 1 → 0 ≤ a.2.1 ∧ a.2.1 ≤ 1099511627776) ∧ (if y < x then x else y) = h) := ⟨hta, htb, hy, hn, hxy⟩
  have HI := (show Hid _ from hI)
  unfold ptr at *
  clear hs hH hta htb hn hc hx hy hI hxy
  go_enter Tryz.func158, Tryz.ntmps158
  go_wp2_with fail
  refine H1.mono ?_
  rintro e w2 ⟨g2, rfl, hP2⟩
  have HV := sval_any bs ta oa a.1 a.2.1 a.2.2 none 0 [] vd D Ts g0 g2 w0 w2 hP2.ste hP2.at_ (by omega) (HS.out.1.mor hP2.mor) (RowL.nil _ _ _) (Nat.zero_le _) HS.out.2.2.2.1
  have HP2 := (show Hid _ from hP2)
  unfold ptr at *
  clear hP2 H1
  go_wp2_with fail
  refine HV.mono ?_
  rintro e w3 ⟨g3, q3, rfl, _, hP3, hl3⟩
  have HP3 : Hid (ScopeP g0 w0 g w bs vd D Ts g3 w3) := HP2.out.trans hP3
  have HW := sortWith_any HI.out s bs tb ob q3 b.1 b.2.1 y b.2.2 _ Ts g0 g3 w0 w3 hP3.ste hP3.at_ hT (HS.out.2.1.mor HP3.out.mor) hl3 HS.out.2.2.1
  unfold ptr at *
  clear hP3 hl3 HV
  go_wp2_with fail
  refine HW.mono ?_
  rintro e w4 ⟨g4, rfl, hP4⟩
  have HP4 : Hid (ScopeP g0 w0 g w bs vd D Ts g4 w4) := HP3.out.trans hP4
  have HH : ∀ m, Calls Tryz.prog 156 #[.int .i64 m] w4 (LatP g4 w4 (.val (.mk 2 m []))) := fun m => height_any m g4 w4 hP4.ste.inv
  clear hP4 HW
  go_wp2_with fail
  all_goals
    refine (HH _).mono ?_
    rintro e w5 ⟨g5, q5, rfl, hs5, hl5⟩
    have HF : Hid (ScopeP g0 w0 g w bs vd D Ts g5 w5) := HP4.out.then hs5
    have HL := (show Hid _ from hl5)
    unfold ptr
    clear hs5 hl5 HH
    go_wp2_with fail
    refine bodyPost_ret (v := .tuple #[.pointer (some ⟨q5, 0, none⟩), .int .i64 0]) (by simp [results, Tryz.results158, go_sem]) rfl ⟨g5, q5, rfl, HF.out, ?_⟩
    rw [HL.out]
    have e2 := HS.out.2.2.2.2
    congr 3
    split at e2 <;> omega

def functionV (s : Nat) (rec : Finds) (D : List (Int × Int × F)) (Ts : List Th) (a b : Int × Int × F) : Option Th :=
  match sortV s rec Ts a.1 a.2.1 a.2.2, rec (Ts ++ [hereV D Ts.length a.1 a.2.1 a.2.2]) b.1 b.2.1 b.2.2 with
  | some _, some T => some (.val (.mk 3 0 [.plain (hereV D Ts.length a.1 a.2.1 a.2.2), .underU (Ts.length : Int) T]))
  | _, _ => none

set_option maxHeartbeats 4000000 in
theorem function_any {rec : Finds} {vd : Ds} {D : List (Int × Int × F)} (hI : InfersP rec vd D) (s bs ta oa tb ob : Nat) (a b : Int × Int × F) (T : Th) (Ts : List Th) (g0 g : Gh) (w0 w : World) (hs : Ste g0 w0 g w) (hH : ScopeAt g w0 w bs vd D Ts) (hT : Ts.length + 1 ≤ 100000)
    (hta : TmAt g.o w ta oa a.1 a.2.1 a.2.2) (htb : TmAt g.o w tb ob b.1 b.2.1 b.2.2) (hn : a.1 = 1 → 0 ≤ a.2.1 ∧ a.2.1 ≤ 1099511627776) (hc : functionV s rec D Ts a b = some T) :
    Calls Tryz.prog 159 #[ptr bs, .pointer (some ⟨ta, oa, none⟩), .pointer (some ⟨tb, ob, none⟩)] w fun e w' => ∃ g' b, e = .returned (.tuple #[ptr b, .int .i64 0]) ∧ ScopeP g0 w0 g w bs vd D Ts g' w' ∧ g'.l b = some T := by
  obtain ⟨x, U, hx, hy, rfl⟩ : ∃ x U, sortV s rec Ts a.1 a.2.1 a.2.2 = some x ∧ rec (Ts ++ [hereV D Ts.length a.1 a.2.1 a.2.2]) b.1 b.2.1 b.2.2 = some U ∧ (.val (.mk 3 0 [.plain (hereV D Ts.length a.1 a.2.1 a.2.2), .underU (Ts.length : Int) U])) = T := by
    unfold functionV at hc
    split at hc
    · rename_i x U hx hy
      exact ⟨x, U, hx, hy, Option.some.inj hc⟩
    · cases hc
  have H1 := sort_any hI s bs ta oa a.1 a.2.1 x a.2.2 Ts g0 g w0 w hs hH (by omega) hta hx
  have HS : Hid (TmAt g.o w ta oa a.1 a.2.1 a.2.2 ∧ TmAt g.o w tb ob b.1 b.2.1 b.2.2 ∧ rec (Ts ++ [hereV D Ts.length a.1 a.2.1 a.2.2]) b.1 b.2.1 b.2.2 = some U ∧ (a.1 = 1 → 0 ≤ a.2.1 ∧ a.2.1 ≤ 1099511627776)) := ⟨hta, htb, hy, hn⟩
  have HI := (show Hid _ from hI)
  unfold ptr at *
  clear hs hH hta htb hn hc hx hy hI
  go_enter Tryz.func159, Tryz.ntmps159
  go_wp2_with fail
  refine H1.mono ?_
  rintro e w2 ⟨g2, rfl, hP2⟩
  have HV := sval_any bs ta oa a.1 a.2.1 a.2.2 none 0 [] vd D Ts g0 g2 w0 w2 hP2.ste hP2.at_ (by omega) (HS.out.1.mor hP2.mor) (RowL.nil _ _ _) (Nat.zero_le _) HS.out.2.2.2
  have HP2 := (show Hid _ from hP2)
  unfold ptr at *
  clear hP2 H1
  go_wp2_with fail
  refine HV.mono ?_
  rintro e w3 ⟨g3, q3, rfl, _, hP3, hl3⟩
  have HP3 : Hid (ScopeP g0 w0 g w bs vd D Ts g3 w3 ∧ g3.l q3 = some (hereV D Ts.length a.1 a.2.1 a.2.2)) := ⟨HP2.out.trans hP3, hl3⟩
  have HB := sbind_any bs q3 vd (hereV D Ts.length a.1 a.2.1 a.2.2) D Ts g0 g3 w0 w3 hP3.ste hP3.at_ hl3 (by omega)
  unfold ptr at *
  clear hP3 hl3 HV HP2
  go_wp2_with fail
  refine HB.mono ?_
  rintro e w4 ⟨g4, q4, rfl, hP4, _⟩
  have HP4 : Hid (Mor g w g4 w4 ∧ g4.l q3 = some (hereV D Ts.length a.1 a.2.1 a.2.2)) := ⟨HP3.out.1.mor.trans hP4.mor, hP4.mor.l _ _ HP3.out.2⟩
  have HR := HI.out bs tb ob b.1 b.2.1 b.2.2 (Ts ++ [hereV D Ts.length a.1 a.2.1 a.2.2]) U g0 g4 w0 w4 hP4.ste hP4.at_ (by rw [List.length_append]; exact hT) (HS.out.2.1.mor HP4.out.1) HS.out.2.2.1
  unfold ptr at *
  clear hP4 HB HP3
  go_wp2_with fail
  refine HR.mono ?_
  rintro e w5 ⟨g5, q5, rfl, hP5, hl5⟩
  have HP5 : Hid (Mor g w g5 w5 ∧ g5.l q3 = some (hereV D Ts.length a.1 a.2.1 a.2.2) ∧ g5.l q5 = some U) := ⟨HP4.out.1.trans hP5.mor, hP5.mor.l _ _ HP4.out.2, hl5⟩
  have HL := leave_any bs 1 vd D Ts [hereV D Ts.length a.1 a.2.1 a.2.2] g0 g5 w0 w5 hP5.ste hP5.at_ rfl (by decide) (by omega)
  unfold ptr at *
  clear hP5 hl5 HR HP4
  go_wp2_with fail
  refine HL.mono ?_
  rintro e w6 ⟨rfl, hP6⟩
  have HP6 : Hid (ScopeP g0 w0 g w bs vd D Ts g5 w6) := ⟨hP6.ste, HP5.out.1.trans hP6.mor, hP6.at_⟩
  have HM := maker_any bs vd D Ts g0 g5 w0 w6 hP6.ste hP6.at_
  unfold ptr at *
  clear hP6 HL
  go_wp2_with fail
  refine HM.mono ?_
  rintro e w7 ⟨g7, q7, rfl, hs7, _, hm7⟩
  have HU := mkUnder_any q7 q3 q5 3 ⟨(Ts.length : Int), 0, D⟩ _ _ g7 w7 hs7.inv hm7 (hs7.le.l _ _ HP5.out.2.1) (hs7.le.l _ _ HP5.out.2.2)
  have HP7 : Hid (ScopeP g0 w0 g w bs vd D Ts g7 w7) := HP6.out.then hs7
  unfold ptr at *
  clear hs7 hm7 HM
  go_wp2_with fail
  refine HU.mono ?_
  rintro e w8 ⟨g8, q8, rfl, hs8, hl8⟩
  have HF : Hid (ScopeP g0 w0 g w bs vd D Ts g8 w8) := HP7.out.then hs8
  have HL8 := (show Hid _ from hl8)
  unfold ptr
  clear hs8 hl8 HU
  go_wp2_with fail
  refine bodyPost_ret (v := .tuple #[.pointer (some ⟨q8, 0, none⟩), .int .i64 0]) (by simp [results, Tryz.results159, go_sem]) rfl ⟨g8, q8, rfl, HF.out, HL8.out⟩
end Go.Proofs.YthfjmcomhccbaaaGreatDoor
