/-
  Contracts of package decl: what is asked about a declaration.
-/
/-
  Contracts of package decl: questions, verdict.
-/
import Derived.Test.YthfjmcomhccbaaaGreatDoorPlain4m
namespace Go.Proofs.YthfjmcomhccbaaaGreatDoor
open Go.RowKit Tmx Evx
set_option maxRecDepth 60000

/-- What must be so of a declaration behind others, for its verdict to be known: it fits, but for its type, perhaps. -/
structure Fits (s cf fu : Nat) (l : List Dcl) (d : Dcl) (r : Bool) : Prop where
  hcf : cf ≤ 400000
  new : newB l d.nm = true
  few : l.length < 12
  noV : ∀ x, x ∈ l → x.T.1 ≠ 1 ∧ x.B.1 ≠ 1
  kT : d.T.1 ≠ 1
  kB : d.B.1 ≠ 1
  nT : nums d.T.2.2
  nB : nums d.B.2.2
  wT : wrongT (l.length : Int) 0 d.T.1 d.T.2.1 d.T.2.2 = 0
  wB : wrongT (l.length : Int) 0 d.B.1 d.B.2.1 d.B.2.2 = 0
  sort : ∃ h, sortV s (inferV s cf (l.map (·.B)) (l.map (·.T)) fu) [] d.T.1 d.T.2.1 d.T.2.2 = some h
  check : checkRV s cf (inferV s cf (l.map (·.B)) (l.map (·.T)) fu) [] d.B.1 d.B.2.1 d.B.2.2 (hereV (l.map (·.B)) 0 d.T.1 d.T.2.1 d.T.2.2) = some r

theorem DlAt.ds {w : World} {p : Option Addr} {l : List Dcl} (h : DlAt w p l) (cap : Nat) (hn : ∀ x, x ∈ l → x.T.1 ≠ 1 ∧ x.B.1 ≠ 1) (hl : l.length ≤ 1000) : DsAt w p cap (l.map (·.B)) (l.map (·.T)) := by
  refine ⟨fun i x hx => ?_, ⟨p, cap, rfl, fun i x hx => ?_⟩, by simp, by simpa using hl⟩
  · rw [List.getElem?_map] at hx
    obtain ⟨d, hd, rfl⟩ := Option.map_eq_some_iff.1 hx
    obtain ⟨b, o, p1, p2, c1, c2, e, hc, h1, h2, h3, h4⟩ := h i d hd
    obtain ⟨_, _, _, _, x4, x5, x6⟩ := seven_at hc
    exact ⟨b, o, e, ⟨World.block_lt_of_cell? w ⟨b, _, none⟩ x4, p2, ⟨c2, h2⟩, x4, x5, x6, h4⟩, (hn d (List.mem_of_getElem? hd)).2⟩
  · rw [List.getElem?_map] at hx
    obtain ⟨d, hd, rfl⟩ := Option.map_eq_some_iff.1 hx
    obtain ⟨b, o, p1, p2, c1, c2, e, hc, h1, h2, h3, h4⟩ := h i d hd
    obtain ⟨_, x1, x2, x3, _, _, _⟩ := seven_at hc
    exact ⟨b, o, e, ⟨World.block_lt_of_cell? w ⟨b, _, none⟩ x1, p1, ⟨c1, h1⟩, x1, x2, x3, h3⟩, (hn d (List.mem_of_getElem? hd)).1⟩

/-- The boxes that the questions capture. -/
structure Boxes (w : World) (bl bd : Nat) (p p1 p2 : Option Addr) (cap c1 c2 : Nat) (l : List Dcl) (d : Dcl) : Prop where
  lb : Blk w bl #[.slice p l.length cap] 23
  db : Blk w bd #[.string ⟨d.nm.toArray⟩, .int .i64 d.T.1, .int .i64 d.T.2.1, .slice p1 (len d.T.2.2) c1, .int .i64 d.B.1, .int .i64 d.B.2.1, .slice p2 (len d.B.2.2) c2] 70
  lies : DlAt w p l
  cT : len d.T.2.2 ≤ c1
  cB : len d.B.2.2 ≤ c2
  sT : SlO (old w) w p1 d.T.2.2
  sB : SlO (old w) w p2 d.B.2.2
  name : NameOK d.nm w
theorem NameOK.below {nm : List UInt8} {w w' : World} (h : NameOK nm w) (hb : Below w.heap.size w w') : NameOK nm w' := fun w2 h2 => h w2 (hb.trans (h2.mono hb.size))
theorem Boxes.below {w w' : World} {bl bd : Nat} {p p1 p2 : Option Addr} {cap c1 c2 : Nat} {l : List Dcl} {d : Dcl} (h : Boxes w bl bd p p1 p2 cap c1 c2 l d) (hb : Below w.heap.size w w') : Boxes w' bl bd p p1 p2 cap c1 c2 l d :=
  ⟨h.lb.below hb, h.db.below hb, h.lies.below hb, h.cT, h.cB, h.sT.below hb, h.sB.below hb, h.name.below hb⟩

section
variable {s cf fu bl bd : Nat} {p p1 p2 : Option Addr} {cap c1 c2 : Nat} {l : List Dcl} {d : Dcl} {r : Bool} {w : World}


set_option maxHeartbeats 4000000 in
theorem q1_any (hB : Boxes w bl bd p p1 p2 cap c1 c2 l d) (hF : Fits s cf fu l d r) :
    Calls Tryz.prog 100 #[ptr bl, ptr bd] w fun e w' => e = .returned (.int .i64 0) ∧ Below w.heap.size w w' := by
  obtain ⟨x0, _⟩ := hB.lb.one
  obtain ⟨⟨y0, _, _, _, _, _, _⟩, _⟩ := hB.db.seven
  obtain ⟨n, hn⟩ : ∃ n, l.length = n := ⟨_, rfl⟩
  have HX := unfit_any l p cap d.nm w hB.lies hB.name hF.new (by have := hF.few; omega)
  rw [hn] at HX x0
  clear hn
  unfold ptr
  clear hB hF
  go_enter Tryz.func100, Tryz.ntmps100
  go_wp2_with fail
  refine HX.mono ?_
  rintro e w2 ⟨rfl, hb2⟩
  have HB := (show Hid _ from hb2)
  clear hb2
  clear HX
  go_wp2_with fail
  refine bodyPost_ret (v := .int .i64 0) (by simp [results, Tryz.results100, go_sem]) rfl ⟨rfl, HB.out⟩

set_option maxHeartbeats 4000000 in
theorem q2_any (hB : Boxes w bl bd p p1 p2 cap c1 c2 l d) (hF : Fits s cf fu l d r) :
    Calls Tryz.prog 102 #[ptr bl] w fun e w' => e = .returned (.int .i64 0) ∧ Below w.heap.size w w' := by
  obtain ⟨x0, _⟩ := hB.lb.one
  have HX := full_any p l.length cap w hF.few
  unfold ptr
  clear hB hF
  go_enter Tryz.func102, Tryz.ntmps102
  go_wp2_with fail
  refine HX.mono ?_
  rintro e w2 ⟨rfl, rfl⟩
  have HB : Hid (Below w2.heap.size w2 w2) := Below.refl _ _
  clear HX
  go_wp2_with fail
  refine bodyPost_ret (v := .int .i64 0) (by simp [results, Tryz.results102, go_sem]) rfl ⟨rfl, HB.out⟩

set_option maxHeartbeats 4000000 in
theorem q3_any (hB : Boxes w bl bd p p1 p2 cap c1 c2 l d) (hF : Fits s cf fu l d r) :
    Calls Tryz.prog 104 #[ptr bd, ptr bl] w fun e w' => e = .returned (.int .i64 0) ∧ Below w.heap.size w w' := by
  obtain ⟨x0, _⟩ := hB.lb.one
  obtain ⟨⟨_, y1, y2, y3, _, _, _⟩, _⟩ := hB.db.seven
  have HX := twrong_any d.T.2.2 d.T.1 d.T.2.1 p1 c1 0 (l.length : Int) w hF.nT (fun e => absurd e hF.kT) hB.sT.sl
  rw [hF.wT] at HX
  unfold ptr
  clear hB hF
  go_enter Tryz.func104, Tryz.ntmps104
  go_wp2_with fail
  refine HX.mono ?_
  rintro e w2 ⟨rfl, hb2⟩
  have HB := (show Hid _ from hb2)
  clear hb2
  clear HX
  go_wp2_with fail
  refine bodyPost_ret (v := .int .i64 0) (by simp [results, Tryz.results104, go_sem]) rfl ⟨rfl, HB.out⟩

set_option maxHeartbeats 4000000 in
theorem q4_any (hB : Boxes w bl bd p p1 p2 cap c1 c2 l d) (hF : Fits s cf fu l d r) :
    Calls Tryz.prog 106 #[ptr bd, ptr bl] w fun e w' => e = .returned (.int .i64 0) ∧ Below w.heap.size w w' := by
  obtain ⟨x0, _⟩ := hB.lb.one
  obtain ⟨⟨_, _, _, _, y4, y5, y6⟩, _⟩ := hB.db.seven
  have HX := twrong_any d.B.2.2 d.B.1 d.B.2.1 p2 c2 0 (l.length : Int) w hF.nB (fun e => absurd e hF.kB) hB.sB.sl
  rw [hF.wB] at HX
  unfold ptr
  clear hB hF
  go_enter Tryz.func106, Tryz.ntmps106
  go_wp2_with fail
  refine HX.mono ?_
  rintro e w2 ⟨rfl, hb2⟩
  have HB := (show Hid _ from hb2)
  clear hb2
  clear HX
  go_wp2_with fail
  refine bodyPost_ret (v := .int .i64 0) (by simp [results, Tryz.results106, go_sem]) rfl ⟨rfl, HB.out⟩

set_option maxHeartbeats 4000000 in
theorem q5_any (hB : Boxes w bl bd p p1 p2 cap c1 c2 l d) (hF : Fits s cf fu l d r) :
    Calls Tryz.prog 107 #[ptr bl, ptr bd] w fun e w' => e = .returned (.int .i64 0) ∧ Below w.heap.size w w' := by
  obtain ⟨x0, _⟩ := hB.lb.one
  obtain ⟨⟨_, y1, y2, y3, _, _, _⟩, _⟩ := hB.db.seven
  obtain ⟨h, hh⟩ := hF.sort
  have HX := sortTop_any s cf fu hF.hcf p p1 cap c1 _ _ d.T.1 d.T.2.1 h d.T.2.2 w (hB.lies.ds cap hF.noV (by have := hF.few; omega)) hB.cT hB.sT hh
  rw [List.length_map] at HX
  clear hh
  unfold ptr
  clear hB hF
  go_enter Tryz.func107, Tryz.ntmps107
  go_wp2_with fail
  refine HX.mono ?_
  rintro e w2 ⟨rfl, hb2⟩
  have HB := (show Hid _ from hb2)
  clear hb2
  clear HX
  go_wp2_with fail
  refine bodyPost_ret (v := .int .i64 0) (by simp [results, Tryz.results107, go_sem]) rfl ⟨rfl, HB.out⟩

set_option maxHeartbeats 4000000 in
theorem q6_any (hB : Boxes w bl bd p p1 p2 cap c1 c2 l d) (hF : Fits s cf fu l d r) :
    Calls Tryz.prog 109 #[ptr bl, ptr bd] w fun e w' => e = .returned (.int .i64 (okE r)) ∧ Below w.heap.size w w' := by
  obtain ⟨x0, _⟩ := hB.lb.one
  obtain ⟨⟨_, y1, y2, y3, y4, y5, y6⟩, _⟩ := hB.db.seven
  have HX := checkTop_any s cf fu hF.hcf p p2 p1 cap c2 c1 _ _ d.B.1 d.B.2.1 d.T.1 d.T.2.1 d.B.2.2 d.T.2.2 r w (hB.lies.ds cap hF.noV (by have := hF.few; omega)) hB.cB hB.sB hB.cT hB.sT hF.kT hF.check
  rw [List.length_map] at HX
  unfold ptr
  clear hB hF
  go_enter Tryz.func109, Tryz.ntmps109
  go_wp2_with fail
  refine HX.mono ?_
  rintro e w2 ⟨rfl, hb2⟩
  have HB := (show Hid _ from hb2)
  clear hb2
  clear HX
  go_wp2_with fail
  refine bodyPost_ret (v := .int .i64 (okE r)) (by simp [results, Tryz.results109, go_sem]) rfl ⟨rfl, HB.out⟩
end
end Go.Proofs.YthfjmcomhccbaaaGreatDoor

namespace Go.Proofs.YthfjmcomhccbaaaGreatDoor
open Go.RowKit Tmx Evx
set_option maxRecDepth 60000

def fn2 (f a b : Nat) : Value := .func (.func f) #[] #[ptr a, ptr b]
/-- The questions, with what they capture. -/
def quest (bl bd : Nat) : Array Value := #[.int .i64 0, fn2 100 bl bd, .int .i64 0, .func (.func 102) #[] #[ptr bl], .int .i64 1, fn2 104 bd bl, .int .i64 2, fn2 106 bd bl, .int .i64 1, fn2 107 bl bd, .int .i64 2, fn2 109 bl bd]

section
variable {s cf fu : Nat} {p p1 p2 : Option Addr} {cap c1 c2 : Nat} {l : List Dcl} {d : Dcl} {r : Bool} {w : World}

set_option maxHeartbeats 4000000 in
theorem questions_any (hl : DlAt w p l) (hT : len d.T.2.2 ≤ c1) (hB : len d.B.2.2 ≤ c2) (sT : SlO (old w) w p1 d.T.2.2) (sB : SlO (old w) w p2 d.B.2.2) (hN : NameOK d.nm w) :
    Calls Tryz.prog 82 #[.slice p l.length cap, .agg (sevenD d p1 p2 c1 c2).toArray] w fun e w' => e = .returned (.slice (some ⟨w.heap.size + 2, 0, none⟩) 6 6) ∧ Below w.heap.size w w' ∧ Boxes w' w.heap.size (w.heap.size + 1) p p1 p2 cap c1 c2 l d ∧ Blk w' (w.heap.size + 2) (quest w.heap.size (w.heap.size + 1)) 151 := by
  obtain ⟨n, hn⟩ : ∃ n, l.length = n := ⟨_, rfl⟩
  have HF : Hid (∀ W, W = ((w.alloc (.cells #[.slice p n cap] 23)).alloc (.cells (sevenD d p1 p2 c1 c2).toArray 70)).alloc (.cells (quest w.heap.size (w.heap.size + 1)) 151) → Below w.heap.size w W ∧ Boxes W w.heap.size (w.heap.size + 1) p p1 p2 cap c1 c2 l d ∧ Blk W (w.heap.size + 2) (quest w.heap.size (w.heap.size + 1)) 151) := by
    rintro W rfl
    have hb : Below w.heap.size w (((w.alloc (.cells #[.slice p n cap] 23)).alloc (.cells (sevenD d p1 p2 c1 c2).toArray 70)).alloc (.cells (quest w.heap.size (w.heap.size + 1)) 151)) := (((Below.refl _ _).alloc (Nat.le_refl _) _).alloc (by simp) _).alloc (by simp; omega) _
    refine ⟨hb, ⟨?_, ?_, hl.below hb, hT, hB, sT.below hb, sB.below hb, hN.below hb⟩, ?_⟩
    · rw [hn]
      exact ((Blk.new w #[.slice p n cap] 23).alloc _).alloc _
    · have := (Blk.new (w.alloc (.cells #[.slice p n cap] 23)) (sevenD d p1 p2 c1 c2).toArray 70).alloc (.cells (quest w.heap.size (w.heap.size + 1)) 151)
      rw [World.size_alloc] at this
      exact this
    · have := Blk.new ((w.alloc (.cells #[.slice p n cap] 23)).alloc (.cells (sevenD d p1 p2 c1 c2).toArray 70)) (quest w.heap.size (w.heap.size + 1)) 151
      rw [World.size_alloc, World.size_alloc] at this
      exact this
  rw [hn]
  unfold sevenD quest fn2 ptr at *
  clear hl hT hB sT sB hN hn
  go_enter Tryz.func82, Tryz.ntmps82
  go_wp2_with fail
  exact bodyPost_ret (v := .slice (some ⟨w.heap.size + 2, 0, none⟩) 6 6) (by simp [results, Tryz.results82, go_sem]) rfl ⟨rfl, HF.out _ rfl⟩

/-- The calls of the questions. -/
theorem hcq (f : Nat) (h : f = 100 ∨ f = 102 ∨ f = 104 ∨ f = 106 ∨ f = 107 ∨ f = 109) : ∀ a W, Sem.run Tryz.prog (callFunc f a) W = .ok (Next.enter f a) W := by
  rcases h with rfl | rfl | rfl | rfl | rfl | rfl <;> exact fun a W => by kernel_rfl

set_option maxHeartbeats 8000000 in
theorem verdict_any (hl : DlAt w p l) (hT : len d.T.2.2 ≤ c1) (hB : len d.B.2.2 ≤ c2) (sT : SlO (old w) w p1 d.T.2.2) (sB : SlO (old w) w p2 d.B.2.2) (hN : NameOK d.nm w) (hF : Fits s cf fu l d r) :
    Calls Tryz.prog 63 #[.slice p l.length cap, .agg (sevenD d p1 p2 c1 c2).toArray] w fun e w' => e = .returned (.agg #[.int .i64 (okE r), .int .i64 (if r then 0 else 2)]) ∧ Below w.heap.size w w' := by
  have HQ : ∀ (W : World), Below w.heap.size w W → Calls Tryz.prog 82 #[.slice p l.length cap, .agg (sevenD d p1 p2 c1 c2).toArray] W fun e w' => e = .returned (.slice (some ⟨W.heap.size + 2, 0, none⟩) 6 6) ∧ Below W.heap.size W w' ∧ Boxes w' W.heap.size (W.heap.size + 1) p p1 p2 cap c1 c2 l d ∧ Blk w' (W.heap.size + 2) (quest W.heap.size (W.heap.size + 1)) 151 :=
    fun W h => questions_any (hl.below h) hT hB (sT.below h) (sB.below h) (hN.below h)
  obtain ⟨n, hn⟩ : ∃ n, l.length = n := ⟨_, rfl⟩
  rw [hn] at HQ ⊢
  have HF := (show Hid _ from hF)
  unfold sevenD at *
  clear hl hT hB sT sB hN hF hn
  go_enter Tryz.func63, Tryz.ntmps63
  go_wp2_with fail
  have hb2 : Below w.heap.size w ((w.alloc (.cells #[.string ⟨d.nm.toArray⟩, .int .i64 d.T.1, .int .i64 d.T.2.1, .slice p1 (len d.T.2.2) c1, .int .i64 d.B.1, .int .i64 d.B.2.1, .slice p2 (len d.B.2.2) c2] 70)).alloc (.cells #[.int .i64 0, .int .i64 0] 40)) := ((Below.refl _ _).alloc (Nat.le_refl _) _).alloc (by simp) _
  have hv2 : Blk ((w.alloc (.cells #[.string ⟨d.nm.toArray⟩, .int .i64 d.T.1, .int .i64 d.T.2.1, .slice p1 (len d.T.2.2) c1, .int .i64 d.B.1, .int .i64 d.B.2.1, .slice p2 (len d.B.2.2) c2] 70)).alloc (.cells #[.int .i64 0, .int .i64 0] 40)) (w.heap.size + 1) #[.int .i64 0, .int .i64 0] 40 := by
    have := Blk.new (w.alloc (.cells #[.string ⟨d.nm.toArray⟩, .int .i64 d.T.1, .int .i64 d.T.2.1, .slice p1 (len d.T.2.2) c1, .int .i64 d.B.1, .int .i64 d.B.2.1, .slice p2 (len d.B.2.2) c2] 70)) #[.int .i64 0, .int .i64 0] 40
    rw [World.size_alloc] at this
    exact this
  have HQ2 := HQ _ hb2
  clear HQ
  generalize hW2 : (w.alloc (.cells #[.string ⟨d.nm.toArray⟩, .int .i64 d.T.1, .int .i64 d.T.2.1, .slice p1 (len d.T.2.2) c1, .int .i64 d.B.1, .int .i64 d.B.2.1, .slice p2 (len d.B.2.2) c2] 70)).alloc (.cells #[.int .i64 0, .int .i64 0] 40) = W2 at *
  clear hW2
  refine HQ2.mono ?_
  rintro e w3 ⟨rfl, hb3, hBx, hQ⟩
  obtain ⟨B, hB⟩ : ∃ B, W2.heap.size = B := ⟨_, rfl⟩
  rw [hB] at hBx hQ ⊢
  have HI : Hid (Below w.heap.size w w3 ∧ Boxes w3 B (B + 1) p p1 p2 cap c1 c2 l d ∧ Blk w3 (B + 2) (quest B (B + 1)) 151 ∧ Blk w3 (w.heap.size + 1) #[.int .i64 0, .int .i64 0] 40) := ⟨hb2.trans (hb3.mono hb2.size), hBx, hQ, hv2.below hb3⟩
  have hcs := hcq
  have k1 := hcs 100 (by decide)
  have k2 := hcs 102 (by decide)
  have k3 := hcs 104 (by decide)
  have k4 := hcs 106 (by decide)
  have k5 := hcs 107 (by decide)
  have k6 := hcs 109 (by decide)
  clear hcs hb2 hv2 HQ2 hb3 hBx hQ hB
  go_wp2_with fail
  go_loopw [12] (fun i wr => ∃ j : Nat, j ≤ 6 ∧ i = .int .i64 j ∧ Below w.heap.size w wr ∧ Boxes wr B (B + 1) p p1 p2 cap c1 c2 l d ∧ Blk wr (B + 2) (quest B (B + 1)) 151 ∧ Blk wr (w.heap.size + 1) #[.int .i64 0, .int .i64 0] 40 ∧ (j = 6 → r = true)) (fun i _ => 6 - (intOf i).toNat)
  case atStart => exact ⟨0, by omega, rfl, HI.out.1, HI.out.2.1, HI.out.2.2.1, HI.out.2.2.2, fun e => absurd e (by decide)⟩
  case round =>
    obtain ⟨j, hj, rfl, h⟩ := hrel
    clear HI
    by_cases hlt : j < 6
    · have : j = 0 ∨ j = 1 ∨ j = 2 ∨ j = 3 ∨ j = 4 ∨ j = 5 := by omega
      clear hj hlt
      rcases this with rfl | rfl | rfl | rfl | rfl | rfl
      · have HC0 : Hid (Calls Tryz.prog 100 #[.pointer (some ⟨B, 0, none⟩), .pointer (some ⟨B + 1, 0, none⟩)] (wr.alloc (.cells #[.int .i64 0, .func (.func 100) #[] #[.pointer (some ⟨B, 0, none⟩), .pointer (some ⟨B + 1, 0, none⟩)]] 151)) fun e w' => e = .returned (.int .i64 (0)) ∧ Below (wr.alloc (.cells #[.int .i64 0, .func (.func 100) #[] #[.pointer (some ⟨B, 0, none⟩), .pointer (some ⟨B + 1, 0, none⟩)]] 151)).heap.size (wr.alloc (.cells #[.int .i64 0, .func (.func 100) #[] #[.pointer (some ⟨B, 0, none⟩), .pointer (some ⟨B + 1, 0, none⟩)]] 151)) w') := q1_any (h.2.1.below ((Below.refl _ _).alloc (Nat.le_refl _) _)) HF.out
        have x0 : wr.cell? ⟨B + 2, 0, none⟩ = some (.int .i64 0) := by rw [h.2.2.1.cell]; rfl
        have x1 : wr.cell? ⟨B + 2, 1, none⟩ = some (.func (.func 100) #[] #[.pointer (some ⟨B, 0, none⟩), .pointer (some ⟨B + 1, 0, none⟩)]) := by rw [h.2.2.1.cell]; rfl
        have HX := (show Hid _ from h)
        have hne : wr.heap.size ≠ w.heap.size + 1 := by have := h.2.2.2.1.lt; omega
        clear h
        go_wp2_with fail
        refine HC0.out.mono ?_
        rintro e w4 ⟨rfl, hb4⟩
        have hb5 : Below wr.heap.size wr w4 := ((Below.refl _ _).alloc (Nat.le_refl _) _).trans (hb4.mono (by simp))
        have HX4 : Hid (Below w.heap.size w w4 ∧ Boxes w4 B (B + 1) p p1 p2 cap c1 c2 l d ∧ Blk w4 (B + 2) (quest B (B + 1)) 151 ∧ Blk w4 (w.heap.size + 1) #[.int .i64 0, .int .i64 0] 40) := ⟨HX.out.1.trans (hb5.mono HX.out.1.size), HX.out.2.1.below hb5, HX.out.2.2.1.below hb5, HX.out.2.2.2.1.below hb5⟩
        have y0 := ((Blk.new wr #[.int .i64 0, .func (.func 100) #[] #[.pointer (some ⟨B, 0, none⟩), .pointer (some ⟨B + 1, 0, none⟩)]] 151).below hb4).two
        obtain ⟨z0, z1, f0, f1⟩ := HX4.out.2.2.2.two
        obtain ⟨y0, _, _, _⟩ := y0
        clear hb4 hb5 x0 x1 HC0
        go_wp2_with fail
        go_roundw
        case rel => exact ⟨1, by omega, rfl, HX4.out.1, HX4.out.2.1, HX4.out.2.2.1, HX4.out.2.2.2, fun e => absurd e (by decide)⟩
        case measure => simp [intOf]
      · have HC1 : Hid (Calls Tryz.prog 102 #[.pointer (some ⟨B, 0, none⟩)] (wr.alloc (.cells #[.int .i64 0, .func (.func 102) #[] #[.pointer (some ⟨B, 0, none⟩)]] 151)) fun e w' => e = .returned (.int .i64 (0)) ∧ Below (wr.alloc (.cells #[.int .i64 0, .func (.func 102) #[] #[.pointer (some ⟨B, 0, none⟩)]] 151)).heap.size (wr.alloc (.cells #[.int .i64 0, .func (.func 102) #[] #[.pointer (some ⟨B, 0, none⟩)]] 151)) w') := q2_any (h.2.1.below ((Below.refl _ _).alloc (Nat.le_refl _) _)) HF.out
        have x0 : wr.cell? ⟨B + 2, 2, none⟩ = some (.int .i64 0) := by rw [h.2.2.1.cell]; rfl
        have x1 : wr.cell? ⟨B + 2, 3, none⟩ = some (.func (.func 102) #[] #[.pointer (some ⟨B, 0, none⟩)]) := by rw [h.2.2.1.cell]; rfl
        have HX := (show Hid _ from h)
        have hne : wr.heap.size ≠ w.heap.size + 1 := by have := h.2.2.2.1.lt; omega
        clear h
        go_wp2_with fail
        refine HC1.out.mono ?_
        rintro e w4 ⟨rfl, hb4⟩
        have hb5 : Below wr.heap.size wr w4 := ((Below.refl _ _).alloc (Nat.le_refl _) _).trans (hb4.mono (by simp))
        have HX4 : Hid (Below w.heap.size w w4 ∧ Boxes w4 B (B + 1) p p1 p2 cap c1 c2 l d ∧ Blk w4 (B + 2) (quest B (B + 1)) 151 ∧ Blk w4 (w.heap.size + 1) #[.int .i64 0, .int .i64 0] 40) := ⟨HX.out.1.trans (hb5.mono HX.out.1.size), HX.out.2.1.below hb5, HX.out.2.2.1.below hb5, HX.out.2.2.2.1.below hb5⟩
        have y0 := ((Blk.new wr #[.int .i64 0, .func (.func 102) #[] #[.pointer (some ⟨B, 0, none⟩)]] 151).below hb4).two
        obtain ⟨z0, z1, f0, f1⟩ := HX4.out.2.2.2.two
        obtain ⟨y0, _, _, _⟩ := y0
        clear hb4 hb5 x0 x1 HC1
        go_wp2_with fail
        go_roundw
        case rel => exact ⟨2, by omega, rfl, HX4.out.1, HX4.out.2.1, HX4.out.2.2.1, HX4.out.2.2.2, fun e => absurd e (by decide)⟩
        case measure => simp [intOf]
      · have HC2 : Hid (Calls Tryz.prog 104 #[.pointer (some ⟨B + 1, 0, none⟩), .pointer (some ⟨B, 0, none⟩)] (wr.alloc (.cells #[.int .i64 1, .func (.func 104) #[] #[.pointer (some ⟨B + 1, 0, none⟩), .pointer (some ⟨B, 0, none⟩)]] 151)) fun e w' => e = .returned (.int .i64 (0)) ∧ Below (wr.alloc (.cells #[.int .i64 1, .func (.func 104) #[] #[.pointer (some ⟨B + 1, 0, none⟩), .pointer (some ⟨B, 0, none⟩)]] 151)).heap.size (wr.alloc (.cells #[.int .i64 1, .func (.func 104) #[] #[.pointer (some ⟨B + 1, 0, none⟩), .pointer (some ⟨B, 0, none⟩)]] 151)) w') := q3_any (h.2.1.below ((Below.refl _ _).alloc (Nat.le_refl _) _)) HF.out
        have x0 : wr.cell? ⟨B + 2, 4, none⟩ = some (.int .i64 1) := by rw [h.2.2.1.cell]; rfl
        have x1 : wr.cell? ⟨B + 2, 5, none⟩ = some (.func (.func 104) #[] #[.pointer (some ⟨B + 1, 0, none⟩), .pointer (some ⟨B, 0, none⟩)]) := by rw [h.2.2.1.cell]; rfl
        have HX := (show Hid _ from h)
        have hne : wr.heap.size ≠ w.heap.size + 1 := by have := h.2.2.2.1.lt; omega
        clear h
        go_wp2_with fail
        refine HC2.out.mono ?_
        rintro e w4 ⟨rfl, hb4⟩
        have hb5 : Below wr.heap.size wr w4 := ((Below.refl _ _).alloc (Nat.le_refl _) _).trans (hb4.mono (by simp))
        have HX4 : Hid (Below w.heap.size w w4 ∧ Boxes w4 B (B + 1) p p1 p2 cap c1 c2 l d ∧ Blk w4 (B + 2) (quest B (B + 1)) 151 ∧ Blk w4 (w.heap.size + 1) #[.int .i64 0, .int .i64 0] 40) := ⟨HX.out.1.trans (hb5.mono HX.out.1.size), HX.out.2.1.below hb5, HX.out.2.2.1.below hb5, HX.out.2.2.2.1.below hb5⟩
        have y0 := ((Blk.new wr #[.int .i64 1, .func (.func 104) #[] #[.pointer (some ⟨B + 1, 0, none⟩), .pointer (some ⟨B, 0, none⟩)]] 151).below hb4).two
        obtain ⟨z0, z1, f0, f1⟩ := HX4.out.2.2.2.two
        obtain ⟨y0, _, _, _⟩ := y0
        clear hb4 hb5 x0 x1 HC2
        go_wp2_with fail
        go_roundw
        case rel => exact ⟨3, by omega, rfl, HX4.out.1, HX4.out.2.1, HX4.out.2.2.1, HX4.out.2.2.2, fun e => absurd e (by decide)⟩
        case measure => simp [intOf]
      · have HC3 : Hid (Calls Tryz.prog 106 #[.pointer (some ⟨B + 1, 0, none⟩), .pointer (some ⟨B, 0, none⟩)] (wr.alloc (.cells #[.int .i64 2, .func (.func 106) #[] #[.pointer (some ⟨B + 1, 0, none⟩), .pointer (some ⟨B, 0, none⟩)]] 151)) fun e w' => e = .returned (.int .i64 (0)) ∧ Below (wr.alloc (.cells #[.int .i64 2, .func (.func 106) #[] #[.pointer (some ⟨B + 1, 0, none⟩), .pointer (some ⟨B, 0, none⟩)]] 151)).heap.size (wr.alloc (.cells #[.int .i64 2, .func (.func 106) #[] #[.pointer (some ⟨B + 1, 0, none⟩), .pointer (some ⟨B, 0, none⟩)]] 151)) w') := q4_any (h.2.1.below ((Below.refl _ _).alloc (Nat.le_refl _) _)) HF.out
        have x0 : wr.cell? ⟨B + 2, 6, none⟩ = some (.int .i64 2) := by rw [h.2.2.1.cell]; rfl
        have x1 : wr.cell? ⟨B + 2, 7, none⟩ = some (.func (.func 106) #[] #[.pointer (some ⟨B + 1, 0, none⟩), .pointer (some ⟨B, 0, none⟩)]) := by rw [h.2.2.1.cell]; rfl
        have HX := (show Hid _ from h)
        have hne : wr.heap.size ≠ w.heap.size + 1 := by have := h.2.2.2.1.lt; omega
        clear h
        go_wp2_with fail
        refine HC3.out.mono ?_
        rintro e w4 ⟨rfl, hb4⟩
        have hb5 : Below wr.heap.size wr w4 := ((Below.refl _ _).alloc (Nat.le_refl _) _).trans (hb4.mono (by simp))
        have HX4 : Hid (Below w.heap.size w w4 ∧ Boxes w4 B (B + 1) p p1 p2 cap c1 c2 l d ∧ Blk w4 (B + 2) (quest B (B + 1)) 151 ∧ Blk w4 (w.heap.size + 1) #[.int .i64 0, .int .i64 0] 40) := ⟨HX.out.1.trans (hb5.mono HX.out.1.size), HX.out.2.1.below hb5, HX.out.2.2.1.below hb5, HX.out.2.2.2.1.below hb5⟩
        have y0 := ((Blk.new wr #[.int .i64 2, .func (.func 106) #[] #[.pointer (some ⟨B + 1, 0, none⟩), .pointer (some ⟨B, 0, none⟩)]] 151).below hb4).two
        obtain ⟨z0, z1, f0, f1⟩ := HX4.out.2.2.2.two
        obtain ⟨y0, _, _, _⟩ := y0
        clear hb4 hb5 x0 x1 HC3
        go_wp2_with fail
        go_roundw
        case rel => exact ⟨4, by omega, rfl, HX4.out.1, HX4.out.2.1, HX4.out.2.2.1, HX4.out.2.2.2, fun e => absurd e (by decide)⟩
        case measure => simp [intOf]
      · have HC4 : Hid (Calls Tryz.prog 107 #[.pointer (some ⟨B, 0, none⟩), .pointer (some ⟨B + 1, 0, none⟩)] (wr.alloc (.cells #[.int .i64 1, .func (.func 107) #[] #[.pointer (some ⟨B, 0, none⟩), .pointer (some ⟨B + 1, 0, none⟩)]] 151)) fun e w' => e = .returned (.int .i64 (0)) ∧ Below (wr.alloc (.cells #[.int .i64 1, .func (.func 107) #[] #[.pointer (some ⟨B, 0, none⟩), .pointer (some ⟨B + 1, 0, none⟩)]] 151)).heap.size (wr.alloc (.cells #[.int .i64 1, .func (.func 107) #[] #[.pointer (some ⟨B, 0, none⟩), .pointer (some ⟨B + 1, 0, none⟩)]] 151)) w') := q5_any (h.2.1.below ((Below.refl _ _).alloc (Nat.le_refl _) _)) HF.out
        have x0 : wr.cell? ⟨B + 2, 8, none⟩ = some (.int .i64 1) := by rw [h.2.2.1.cell]; rfl
        have x1 : wr.cell? ⟨B + 2, 9, none⟩ = some (.func (.func 107) #[] #[.pointer (some ⟨B, 0, none⟩), .pointer (some ⟨B + 1, 0, none⟩)]) := by rw [h.2.2.1.cell]; rfl
        have HX := (show Hid _ from h)
        have hne : wr.heap.size ≠ w.heap.size + 1 := by have := h.2.2.2.1.lt; omega
        clear h
        go_wp2_with fail
        refine HC4.out.mono ?_
        rintro e w4 ⟨rfl, hb4⟩
        have hb5 : Below wr.heap.size wr w4 := ((Below.refl _ _).alloc (Nat.le_refl _) _).trans (hb4.mono (by simp))
        have HX4 : Hid (Below w.heap.size w w4 ∧ Boxes w4 B (B + 1) p p1 p2 cap c1 c2 l d ∧ Blk w4 (B + 2) (quest B (B + 1)) 151 ∧ Blk w4 (w.heap.size + 1) #[.int .i64 0, .int .i64 0] 40) := ⟨HX.out.1.trans (hb5.mono HX.out.1.size), HX.out.2.1.below hb5, HX.out.2.2.1.below hb5, HX.out.2.2.2.1.below hb5⟩
        have y0 := ((Blk.new wr #[.int .i64 1, .func (.func 107) #[] #[.pointer (some ⟨B, 0, none⟩), .pointer (some ⟨B + 1, 0, none⟩)]] 151).below hb4).two
        obtain ⟨z0, z1, f0, f1⟩ := HX4.out.2.2.2.two
        obtain ⟨y0, _, _, _⟩ := y0
        clear hb4 hb5 x0 x1 HC4
        go_wp2_with fail
        go_roundw
        case rel => exact ⟨5, by omega, rfl, HX4.out.1, HX4.out.2.1, HX4.out.2.2.1, HX4.out.2.2.2, fun e => absurd e (by decide)⟩
        case measure => simp [intOf]
      · have HC5 : Hid (Calls Tryz.prog 109 #[.pointer (some ⟨B, 0, none⟩), .pointer (some ⟨B + 1, 0, none⟩)] (wr.alloc (.cells #[.int .i64 2, .func (.func 109) #[] #[.pointer (some ⟨B, 0, none⟩), .pointer (some ⟨B + 1, 0, none⟩)]] 151)) fun e w' => e = .returned (.int .i64 (okE r)) ∧ Below (wr.alloc (.cells #[.int .i64 2, .func (.func 109) #[] #[.pointer (some ⟨B, 0, none⟩), .pointer (some ⟨B + 1, 0, none⟩)]] 151)).heap.size (wr.alloc (.cells #[.int .i64 2, .func (.func 109) #[] #[.pointer (some ⟨B, 0, none⟩), .pointer (some ⟨B + 1, 0, none⟩)]] 151)) w') := q6_any (h.2.1.below ((Below.refl _ _).alloc (Nat.le_refl _) _)) HF.out
        have x0 : wr.cell? ⟨B + 2, 10, none⟩ = some (.int .i64 2) := by rw [h.2.2.1.cell]; rfl
        have x1 : wr.cell? ⟨B + 2, 11, none⟩ = some (.func (.func 109) #[] #[.pointer (some ⟨B, 0, none⟩), .pointer (some ⟨B + 1, 0, none⟩)]) := by rw [h.2.2.1.cell]; rfl
        have HX := (show Hid _ from h)
        have hne : wr.heap.size ≠ w.heap.size + 1 := by have := h.2.2.2.1.lt; omega
        clear h
        go_wp2_with fail
        refine HC5.out.mono ?_
        rintro e w4 ⟨rfl, hb4⟩
        have hb5 : Below wr.heap.size wr w4 := ((Below.refl _ _).alloc (Nat.le_refl _) _).trans (hb4.mono (by simp))
        have HX4 : Hid (Below w.heap.size w w4 ∧ Boxes w4 B (B + 1) p p1 p2 cap c1 c2 l d ∧ Blk w4 (B + 2) (quest B (B + 1)) 151 ∧ Blk w4 (w.heap.size + 1) #[.int .i64 0, .int .i64 0] 40) := ⟨HX.out.1.trans (hb5.mono HX.out.1.size), HX.out.2.1.below hb5, HX.out.2.2.1.below hb5, HX.out.2.2.2.1.below hb5⟩
        have y0 := ((Blk.new wr #[.int .i64 2, .func (.func 109) #[] #[.pointer (some ⟨B, 0, none⟩), .pointer (some ⟨B + 1, 0, none⟩)]] 151).below hb4).two
        obtain ⟨z0, z1, f0, f1⟩ := HX4.out.2.2.2.two
        obtain ⟨y0, _, _, _⟩ := y0
        clear hb4 hb5 x0 x1 HC5
        cases r with
        | true =>
          unfold okE
          go_wp2_with fail
          go_roundw
          case rel => exact ⟨6, by omega, rfl, HX4.out.1, HX4.out.2.1, HX4.out.2.2.1, HX4.out.2.2.2, fun _ => by simp⟩
          case measure => simp [intOf]
        | false =>
          unfold okE
          go_wp2_with fail
          obtain ⟨d0, d1, _, _⟩ := (HX4.out.2.2.2.set2 (.int .i64 10) (.int .i64 2)).two
          have hbF : Below w.heap.size w ((w4.setCell ⟨w.heap.size + 1, 0, none⟩ (.int .i64 10)).setCell ⟨w.heap.size + 1, 1, none⟩ (.int .i64 2)) := (HX4.out.1.setCell (by simp) _).setCell (by simp) _
          exact bodyPost_ret (v := .agg #[.int .i64 10, .int .i64 2]) (by simp [results, Tryz.results63, go_sem, d0, d1]) rfl ⟨rfl, hbF⟩
    · obtain rfl : j = 6 := by omega
      obtain rfl : r = true := h.2.2.2.2 rfl
      obtain ⟨z0, z1, f0, f1⟩ := h.2.2.2.1.two
      have HX := (show Hid _ from h)
      clear h
      go_wp2_with fail
      obtain ⟨d0, d1, _, _⟩ := (HX.out.2.2.2.1.set2 (.int .i64 0) (.int .i64 0)).two
      have hbF : Below w.heap.size w ((wr.setCell ⟨w.heap.size + 1, 0, none⟩ (.int .i64 0)).setCell ⟨w.heap.size + 1, 1, none⟩ (.int .i64 0)) := (HX.out.1.setCell (by simp) _).setCell (by simp) _
      exact bodyPost_ret (v := .agg #[.int .i64 0, .int .i64 0]) (by simp [results, Tryz.results63, go_sem, d0, d1]) rfl ⟨rfl, hbF⟩
end
end Go.Proofs.YthfjmcomhccbaaaGreatDoor
