/-
  Contracts of package infer: infer, of all kinds; check, of another type; newScope.
-/
/-
  Contracts of package infer: Sort, and Check, where nothing is bound.
-/
import Derived.Test.YthfjmcomhccbaaaGreatDoorI13
namespace Go.Proofs.YthfjmcomhccbaaaGreatDoor
open Go.RowKit Tmx Evx
set_option maxRecDepth 60000

theorem infers_any (vd : Ds) (D : List (Int × Int × F)) (s cf : Nat) (hcf : cf ≤ 400000) (hD : vd.T.length ≤ 1000000) : ∀ fu, InfersP (inferV s cf D vd.T fu) vd D
  | 0 => fun _ _ _ _ _ _ _ _ _ _ _ _ _ _ _ _ h => by cases h
  | fu + 1 => fun bs tb o k n f Ts T g0 g w0 w hs hH _ ht hr => by
    have ih := infers_any vd D s cf hcf hD fu
    rw [inferV] at hr
    dsimp only at hr
    split at hr
    · rename_i h
      obtain ⟨h1, h2, h3, h4⟩ := h
      have : k = 1 ∨ k = 2 ∨ k = 3 ∨ k = 4 ∨ k = 5 ∨ k = 6 ∨ k = 7 ∨ k = 8 ∨ k = 9 ∨ k = 10 ∨ k = 11 ∨ k = 12 ∨ k = 13 ∨ k = 14 ∨ k = 15 ∨ k = 16 ∨ k = 17 ∨ k = 18 := by omega
      rcases this with rfl | rfl | rfl | rfl | rfl | rfl | rfl | rfl | rfl | rfl | rfl | rfl | rfl | rfl | rfl | rfl | rfl | rfl
      · exact infer_var ih s cf hcf hD bs tb o n f Ts T g0 g w0 w hs hH h1 ht h3 h4 hr
      · exact infer_u ih s cf hcf hD bs tb o n f Ts T g0 g w0 w hs hH h1 ht h3 h4 hr
      · exact infer_pi ih s cf hcf hD bs tb o n f Ts T g0 g w0 w hs hH h1 ht h3 h4 hr
      · exact infer_lam ih s cf hcf hD bs tb o n f Ts T g0 g w0 w hs hH h1 ht h3 h4 hr
      · exact infer_app ih s cf hcf hD bs tb o n f Ts T g0 g w0 w hs hH h1 ht h3 h4 hr
      · exact infer_sig ih s cf hcf hD bs tb o n f Ts T g0 g w0 w hs hH h1 ht h3 h4 hr
      · exact infer_pair ih s cf hcf hD bs tb o n f Ts T g0 g w0 w hs hH h1 ht h3 h4 hr
      · exact infer_fst ih s cf hcf hD bs tb o n f Ts T g0 g w0 w hs hH h1 ht h3 h4 hr
      · exact infer_snd ih s cf hcf hD bs tb o n f Ts T g0 g w0 w hs hH h1 ht h3 h4 hr
      · exact infer_unit ih s cf hcf hD bs tb o n f Ts T g0 g w0 w hs hH h1 ht h3 h4 hr
      · exact infer_star ih s cf hcf hD bs tb o n f Ts T g0 g w0 w hs hH h1 ht h3 h4 hr
      · exact infer_empty ih s cf hcf hD bs tb o n f Ts T g0 g w0 w hs hH h1 ht h3 h4 hr
      · simp [kindV] at hr
      · exact infer_nat ih s cf hcf hD bs tb o n f Ts T g0 g w0 w hs hH h1 ht h3 h4 hr
      · exact infer_zero ih s cf hcf hD bs tb o n f Ts T g0 g w0 w hs hH h1 ht h3 h4 hr
      · exact infer_suc ih s cf hcf hD bs tb o n f Ts T g0 g w0 w hs hH h1 ht h3 h4 hr
      · exact infer_rec ih s cf hcf hD bs tb o n f Ts T g0 g w0 w hs hH h1 ht h3 h4 hr
      · exact infer_def ih s cf hcf hD bs tb o n f Ts T g0 g w0 w hs hH h1 ht h3 h4 hr
    · cases hr

/-- Is a term of that type? None, where more would be asked. -/
def checkRV (s cf : Nat) (rec : Finds) (Ts : List Th) (k n : Int) (f : F) (want : Th) : Option Bool :=
  match rec Ts k n f with
  | some T => sameTypeV (ev s) cf Ts.length T want
  | none => none
/-- No error, or that of another type. -/
def okE (r : Bool) : Int := if r then 0 else 10
set_option maxHeartbeats 4000000 in
theorem checkR_any {rec : Finds} {vd : Ds} {D : List (Int × Int × F)} (hI : InfersP rec vd D) (s cf bs tb o qw : Nat) (k n : Int) (f : F) (Ts : List Th) (want : Th) (r : Bool) (g0 g : Gh) (w0 w : World) (hs : Ste g0 w0 g w) (hH : ScopeAt g w0 w bs vd D Ts) (hT : Ts.length ≤ 100000)
    (ht : TmAt g.o w tb o k n f) (hw : g.l qw = some want) (hcf : cf ≤ 400000) (hc : checkRV s cf rec Ts k n f want = some r) :
    Calls Tryz.prog 132 #[ptr bs, .pointer (some ⟨tb, o, none⟩), ptr qw] w fun e w' => ∃ g', e = .returned (.int .i64 (okE r)) ∧ ScopeP g0 w0 g w bs vd D Ts g' w' := by
  obtain ⟨T, hr, hsame⟩ : ∃ T, rec Ts k n f = some T ∧ sameTypeV (ev s) cf Ts.length T want = some r := by
    unfold checkRV at hc
    cases e : rec Ts k n f with
    | none => rw [e] at hc; cases hc
    | some T => rw [e] at hc; exact ⟨T, rfl, hc⟩
  have HI := hI bs tb o k n f Ts T g0 g w0 w hs hH hT ht hr
  have HS : Hid (sameTypeV (ev s) cf Ts.length T want = some r ∧ g.l qw = some want) := ⟨hsame, hw⟩
  unfold ptr at *
  clear hI hs hH ht hw hc hr hsame
  go_enter Tryz.func132, Tryz.ntmps132
  go_wp2_with fail
  refine HI.mono ?_
  rintro e w2 ⟨g2, b2, rfl, hP, hl⟩
  obtain ⟨pm, vt, hA⟩ := hP.at_
  obtain ⟨p, cap, rfl, _⟩ := hA.form
  obtain ⟨_, _, c2, _, _, _⟩ := hA.blk.three
  have HC := sameTypeValues_any s cf b2 qw Ts.length cap p T want g2 w2 hP.ste.inv hl (hP.mor.l _ _ HS.out.2) hcf (by omega) r HS.out.1
  have HP := (show Hid _ from hP)
  unfold ptr at *
  clear hP hl hA HI
  go_wp2_with fail
  refine HC.mono ?_
  rintro e w3 ⟨rfl, g3, hs3⟩
  have HF : Hid (ScopeP g0 w0 g w bs vd D Ts g3 w3) := HP.out.then hs3
  clear hs3 HC c2
  cases r
  · go_wp2_with fail
    refine bodyPost_ret (v := .int .i64 10) (by simp [results, Tryz.results132, go_sem]) rfl ⟨g3, rfl, HF.out⟩
  · go_wp2_with fail
    refine bodyPost_ret (v := .int .i64 0) (by simp [results, Tryz.results132, go_sem]) rfl ⟨g3, rfl, HF.out⟩

set_option maxHeartbeats 4000000 in
theorem newScope_any (vd : Ds) (p : Option Addr) (cap : Nat) (D : List (Int × Int × F)) (g : Gh) (w : World) (hi : Inv g w) (hv : vd.v = .slice p D.length cap) (hd : DefsAt g.o w p D) (ht : TysAt g.o w vd) (hl : D.length ≤ 1000) :
    Calls Tryz.prog 141 #[.slice p D.length cap] w fun e w' => ∃ g' bs, e = .returned (ptr bs) ∧ Ste g w g' w' ∧ ScopeAt g' w w' bs vd D [] := by
  have HM := newMaker_any p cap 0 D g w hi hd hl
  have HS : Hid (Inv g w ∧ vd.v = .slice p D.length cap ∧ TysAt g.o w vd) := ⟨hi, hv, ht⟩
  obtain ⟨n, hn⟩ : ∃ n, D.length = n := ⟨_, rfl⟩
  have HN : Hid (D.length = n) := hn
  rw [hn] at HM ⊢
  unfold ptr at *
  clear hi hv hd ht hl hn
  go_enter Tryz.func141, Tryz.ntmps141
  go_wp2_with fail
  refine HM.mono ?_
  rintro e w1 ⟨g1, b1, rfl, hs1, hm1⟩
  have ha : Ste g1 w1 g1 (w1.alloc (.cells #[.slice p n cap, .pointer (some ⟨b1, 0, none⟩), .slice none 0 0] 204)) := .below hs1.inv ((Below.refl _ _).alloc (Nat.le_refl _) _)
  have HF : Hid (Ste g w g1 (w1.alloc (.cells #[.slice p n cap, .pointer (some ⟨b1, 0, none⟩), .slice none 0 0] 204)) ∧ ScopeAt g1 w (w1.alloc (.cells #[.slice p n cap, .pointer (some ⟨b1, 0, none⟩), .slice none 0 0] 204)) w1.heap.size vd D []) := by
    refine ⟨hs1.trans ha, b1, .slice none 0 0, hs1.keep.size, ⟨hs1.inv.l_new (Nat.le_refl _), hs1.inv.o_new (Nat.le_refl _)⟩, ?_, hm1.along (ha.mor hs1.inv), HS.out.2.2.mor ((hs1.trans ha).mor HS.out.1), ⟨[], World.ownsRow_nil _ _ _ _, rfl⟩, fun b h => by cases h⟩
    rw [HS.out.2.1, HN.out]
    exact Blk.new w1 _ _
  clear hs1 hm1 ha HM
  go_wp2_with fail
  refine bodyPost_ret (v := .pointer (some ⟨w1.heap.size, 0, none⟩)) (by simp [results, Tryz.results141, go_sem]) rfl ⟨g1, w1.heap.size, rfl, HF.out.1, HF.out.2⟩

/-- Where nothing is bound. -/
theorem scopeOf_any (vd : Ds) (p : Option Addr) (cap : Nat) (D : List (Int × Int × F)) (g : Gh) (w : World) (hi : Inv g w) (hv : vd.v = .slice p D.length cap) (hd : DefsAt g.o w p D) (ht : TysAt g.o w vd) (hl : D.length ≤ 1000) :
    Calls Tryz.prog 130 #[.slice p D.length cap, .slice none 0 0] w fun e w' => ∃ g' bs, e = .returned (ptr bs) ∧ Ste g w g' w' ∧ ScopeAt g' w w' bs vd D [] := by
  have HM := newScope_any vd p cap D g w hi hv hd ht hl
  obtain ⟨n, hn⟩ : ∃ n, D.length = n := ⟨_, rfl⟩
  rw [hn] at HM ⊢
  unfold ptr at *
  clear hi hv hd ht hl hn
  go_enter Tryz.func130, Tryz.ntmps130
  go_wp2_with fail
  refine HM.mono ?_
  rintro e w1 ⟨g1, b1, rfl, hs1, hm1⟩
  have HF : Hid (Ste g w g1 w1 ∧ ScopeAt g1 w w1 b1 vd D []) := ⟨hs1, hm1⟩
  clear hs1 hm1 HM
  go_wp2_with fail
  go_loopg [6, 11] 0 (fun gg _ i wr => gg = 0 ∧ i = .int .i64 0 ∧ wr = w1)
  case atStart => exact ⟨rfl, rfl, rfl⟩
  case round =>
    obtain ⟨rfl, rfl, rfl⟩ := hrel
    go_wp2_with fail
    refine bodyPost_ret (v := .pointer (some ⟨b1, 0, none⟩)) (by simp [results, Tryz.results130, go_sem]) rfl ⟨g1, b1, rfl, HF.out.1, HF.out.2⟩
end Go.Proofs.YthfjmcomhccbaaaGreatDoor

namespace Go.Proofs.YthfjmcomhccbaaaGreatDoor
open Go.RowKit Tmx Evx
set_option maxRecDepth 60000

/-- Where no thunk is yet: all that lies there stays. -/
def g00 (w : World) : Gh := ⟨fun _ => none, fun _ => none, fun b => b < w.heap.size⟩
theorem inv00 (w : World) : Inv (g00 w) w := ⟨fun _ _ e => absurd e (by simp [g00]), fun _ _ e => absurd e (by simp [g00]), fun _ h => ⟨rfl, h⟩⟩
theorem below00 {w w' : World} {g' : Gh} (h : Ste (g00 w) w g' w') : Below w.heap.size w w' := by
  have k := h.keep
  exact ⟨k.os, k.tape, k.output, k.size, fun b hb => k.block b hb rfl⟩
/-- In blocks that are there. -/
abbrev old (w : World) : Nat → Prop := fun b => b < w.heap.size
/-- The declarations, as they lie: bodies and types, seven cells apart. -/
structure DsAt (w : World) (p : Option Addr) (cap : Nat) (D T : List (Int × Int × F)) : Prop where
  defs : DefsAt (old w) w p D
  tys : TysAt (old w) w ⟨.slice p T.length cap, T⟩
  len : T.length = D.length
  few : D.length ≤ 1000

/-- A term handed in lies in a box of one's own. -/
theorem boxed {w : World} {k n : Int} {f : F} {q : Option Addr} {c : Nat} (hc : len f ≤ c) (hq : SlO (old w) w q f) :
    ∃ g1, Ste (g00 w) w g1 (w.alloc (.cells #[.int .i64 k, .int .i64 n, .slice q (len f) c] 30)) ∧ TmAt g1.o (w.alloc (.cells #[.int .i64 k, .int .i64 n, .slice q (len f) c] 30)) w.heap.size 0 k n f := by
  have hN : Below w.heap.size w (w.alloc (.cells #[.int .i64 k, .int .i64 n, .slice q (len f) c] 30)) := (Below.refl _ _).alloc (Nat.le_refl _) _
  obtain ⟨h8, hmo⟩ := (Ste.refl (inv00 w)).grow hN (fun b => b = w.heap.size) (fun b h => by subst h; simp)
  obtain ⟨z0, z1, z2, _, _, _⟩ := (Blk.new w #[.int .i64 k, .int .i64 n, .slice q (len f) c] 30).three
  exact ⟨_, h8, .inr rfl, q, ⟨c, hc⟩, z0, z1, z2, hq.along hmo.o hmo.same⟩

set_option maxHeartbeats 4000000 in
theorem sortTop_any (s cf fu : Nat) (hcf : cf ≤ 400000) (p q : Option Addr) (cap c : Nat) (D T : List (Int × Int × F)) (k n h : Int) (f : F) (w : World) (hd : DsAt w p cap D T) (hc : len f ≤ c) (hq : SlO (old w) w q f) (hr : sortV s (inferV s cf D T fu) [] k n f = some h) :
    Calls Tryz.prog 108 #[.slice p D.length cap, .slice none 0 0, .agg #[.int .i64 k, .int .i64 n, .slice q (len f) c]] w fun e w' => e = .returned (.tuple #[.int .i64 h, .int .i64 0]) ∧ Below w.heap.size w w' := by
  obtain ⟨g1, hs1, ht1⟩ := boxed (k := k) (n := n) hc hq
  have hm := hs1.mor (inv00 w)
  have hTD := hd.len
  have HSc := scopeOf_any ⟨.slice p T.length cap, T⟩ p cap D g1 _ hs1.inv (by dsimp only; rw [hTD]) (fun i d e => let ⟨b, o, e1, h1, h2⟩ := hd.defs i d e; ⟨b, o, e1, h1.along hm.o hm.same, h2⟩) (TysAt.mor (g := g00 w) hm hd.tys) hd.few
  have HR : Hid (sortV s (inferV s cf D T fu) [] k n f = some h ∧ T.length ≤ 1000000) := ⟨hr, by have := hd.few; omega⟩
  obtain ⟨m, hmD⟩ : ∃ m, D.length = m := ⟨_, rfl⟩
  obtain ⟨l, hlf⟩ : ∃ l, len f = l := ⟨_, rfl⟩
  rw [hmD] at HSc ⊢
  rw [hlf] at HSc hs1 ht1 ⊢
  have HT : Hid (Ste (g00 w) w g1 (w.alloc (.cells #[.int .i64 k, .int .i64 n, .slice q l c] 30)) ∧ TmAt g1.o (w.alloc (.cells #[.int .i64 k, .int .i64 n, .slice q l c] 30)) w.heap.size 0 k n f) := ⟨hs1, ht1⟩
  unfold ptr at *
  clear hs1 ht1 hm hTD hd hc hq hr hmD hlf
  go_enter Tryz.func108, Tryz.ntmps108
  go_wp2_with fail
  refine HSc.mono ?_
  rintro e w1 ⟨g2, bs, rfl, hs2, hH2⟩
  have HSo := sort_any (infers_any ⟨.slice p T.length cap, T⟩ D s cf hcf HR.out.2 fu) s bs w.heap.size 0 k n h f [] g1 g2 _ w1 hs2 hH2 (Nat.zero_le _) (HT.out.2.mor (hs2.mor HT.out.1.inv)) HR.out.1
  have HB : Hid (Ste (g00 w) w g2 w1) := HT.out.1.trans hs2
  unfold ptr at *
  clear hs2 hH2 HSc
  go_wp2_with fail
  refine HSo.mono ?_
  rintro e w2 ⟨g3, rfl, hP⟩
  have HF : Hid (Below w.heap.size w w2) := below00 (HT.out.1.trans hP.ste)
  clear hP HSo
  go_wp2_with fail
  refine bodyPost_ret (v := .tuple #[.int .i64 h, .int .i64 0]) (by simp [results, Tryz.results108, go_sem]) rfl ⟨rfl, HF.out⟩

/-- A term more. -/
theorem boxed2 {w w1 : World} {g1 : Gh} (hs : Ste (g00 w) w g1 w1) {k n : Int} {f : F} {q : Option Addr} {c : Nat} (hc : len f ≤ c) (hq : SlO (old w) w q f) :
    ∃ g2, Ste (g00 w) w g2 (w1.alloc (.cells #[.int .i64 k, .int .i64 n, .slice q (len f) c] 30)) ∧ Mor g1 w1 g2 (w1.alloc (.cells #[.int .i64 k, .int .i64 n, .slice q (len f) c] 30)) ∧ TmAt g2.o (w1.alloc (.cells #[.int .i64 k, .int .i64 n, .slice q (len f) c] 30)) w1.heap.size 0 k n f := by
  have hN : Below w1.heap.size w1 (w1.alloc (.cells #[.int .i64 k, .int .i64 n, .slice q (len f) c] 30)) := (Below.refl _ _).alloc (Nat.le_refl _) _
  obtain ⟨h8, hmo⟩ := hs.grow hN (fun b => b = w1.heap.size) (fun b h => by subst h; simp)
  obtain ⟨z0, z1, z2, _, _, _⟩ := (Blk.new w1 #[.int .i64 k, .int .i64 n, .slice q (len f) c] 30).three
  have hm := (hs.mor (inv00 w)).trans hmo
  exact ⟨_, h8, hmo, .inr rfl, q, ⟨c, hc⟩, z0, z1, z2, hq.along hm.o hm.same⟩

set_option maxHeartbeats 4000000 in
theorem checkTop_any (s cf fu : Nat) (hcf : cf ≤ 400000) (p q q2 : Option Addr) (cap c c2 : Nat) (D T : List (Int × Int × F)) (k n k2 n2 : Int) (f f2 : F) (r : Bool) (w : World) (hd : DsAt w p cap D T) (hc : len f ≤ c) (hq : SlO (old w) w q f) (hc2 : len f2 ≤ c2) (hq2 : SlO (old w) w q2 f2) (hk2 : k2 ≠ 1)
    (hr : checkRV s cf (inferV s cf D T fu) [] k n f (hereV D 0 k2 n2 f2) = some r) :
    Calls Tryz.prog 110 #[.slice p D.length cap, .slice none 0 0, .agg #[.int .i64 k, .int .i64 n, .slice q (len f) c], .agg #[.int .i64 k2, .int .i64 n2, .slice q2 (len f2) c2]] w fun e w' => e = .returned (.int .i64 (okE r)) ∧ Below w.heap.size w w' := by
  obtain ⟨g1, hs1, ht1⟩ := boxed (k := k) (n := n) hc hq
  obtain ⟨g2, hs2, hmo2, ht2⟩ := boxed2 hs1 (k := k2) (n := n2) hc2 hq2
  have ht1 := ht1.mor hmo2
  have hm := hs2.mor (inv00 w)
  have hTD := hd.len
  have HSc := scopeOf_any ⟨.slice p T.length cap, T⟩ p cap D g2 _ hs2.inv (by dsimp only; rw [hTD]) (fun i d e => let ⟨b, o, e1, h1, h2⟩ := hd.defs i d e; ⟨b, o, e1, h1.along hm.o hm.same, h2⟩) (TysAt.mor (g := g00 w) hm hd.tys) hd.few
  have HR : Hid (checkRV s cf (inferV s cf D T fu) [] k n f (hereV D 0 k2 n2 f2) = some r ∧ T.length ≤ 1000000 ∧ k2 ≠ 1) := ⟨hr, by have := hd.few; omega, hk2⟩
  obtain ⟨m, hmD⟩ : ∃ m, D.length = m := ⟨_, rfl⟩
  obtain ⟨l, hlf⟩ : ∃ l, len f = l := ⟨_, rfl⟩
  obtain ⟨l2, hlf2⟩ : ∃ l, len f2 = l := ⟨_, rfl⟩
  rw [hmD] at HSc ⊢
  rw [hlf, hlf2] at HSc ht1 hs2 ht2 ⊢
  rw [hlf] at hs1
  have hz : (w.alloc (.cells #[.int .i64 k, .int .i64 n, .slice q l c] 30)).heap.size = w.heap.size + 1 := by simp
  rw [hz] at ht2
  have HT : Hid (Ste (g00 w) w g2 ((w.alloc (.cells #[.int .i64 k, .int .i64 n, .slice q l c] 30)).alloc (.cells #[.int .i64 k2, .int .i64 n2, .slice q2 l2 c2] 30)) ∧ TmAt g2.o ((w.alloc (.cells #[.int .i64 k, .int .i64 n, .slice q l c] 30)).alloc (.cells #[.int .i64 k2, .int .i64 n2, .slice q2 l2 c2] 30)) w.heap.size 0 k n f ∧
      TmAt g2.o ((w.alloc (.cells #[.int .i64 k, .int .i64 n, .slice q l c] 30)).alloc (.cells #[.int .i64 k2, .int .i64 n2, .slice q2 l2 c2] 30)) (w.heap.size + 1) 0 k2 n2 f2) := ⟨hs2, ht1, ht2⟩
  unfold ptr at *
  clear hs1 ht1 ht2 hs2 hmo2 hm hTD hd hc hq hc2 hq2 hk2 hr hmD hlf hlf2 hz
  go_enter Tryz.func110, Tryz.ntmps110
  go_wp2_with fail
  refine HSc.mono ?_
  rintro e w1 ⟨g3, bs, rfl, hs3, hH3⟩
  have HP3 : Hid (ScopeP g2 ((w.alloc (.cells #[.int .i64 k, .int .i64 n, .slice q l c] 30)).alloc (.cells #[.int .i64 k2, .int .i64 n2, .slice q2 l2 c2] 30)) g3 w1 bs ⟨.slice p T.length cap, T⟩ D [] g3 w1 ∧ TmAt g3.o w1 w.heap.size 0 k n f ∧ TmAt g3.o w1 (w.heap.size + 1) 0 k2 n2 f2) := ⟨.of hs3 hH3 (.refl hs3.inv), HT.out.2.1.mor (hs3.mor HT.out.1.inv), HT.out.2.2.mor (hs3.mor HT.out.1.inv)⟩
  have HV := sval_any bs (w.heap.size + 1) 0 k2 n2 f2 none 0 [] ⟨.slice p T.length cap, T⟩ D [] g2 g3 _ w1 HP3.out.1.ste HP3.out.1.at_ (Nat.zero_le _) HP3.out.2.2 (RowL.nil _ _ _) (Nat.zero_le _) (fun e => absurd e HR.out.2.2)
  unfold ptr at *
  clear hs3 hH3 HSc
  go_wp2_with fail
  refine HV.mono ?_
  rintro e w2 ⟨g4, q4, rfl, hs4, hP4, hl4⟩
  have HP4 := (show Hid _ from hP4)
  have HC := checkR_any (infers_any ⟨.slice p T.length cap, T⟩ D s cf hcf HR.out.2.1 fu) s cf bs w.heap.size 0 q4 k n f [] _ r g2 g4 _ w2 hP4.ste hP4.at_ (Nat.zero_le _) (HP3.out.2.1.mor hP4.mor) hl4 hcf HR.out.1
  unfold ptr at *
  clear hs4 hP4 hl4 HV HP3
  go_wp2_with fail
  refine HC.mono ?_
  rintro e w3 ⟨g5, rfl, hP5⟩
  have HF : Hid (Below w.heap.size w w3) := below00 (HT.out.1.trans hP5.ste)
  clear hP5 HC
  go_wp2_with fail
  refine bodyPost_ret (v := .int .i64 (okE r)) (by simp [results, Tryz.results110, go_sem]) rfl ⟨rfl, HF.out⟩
end Go.Proofs.YthfjmcomhccbaaaGreatDoor
