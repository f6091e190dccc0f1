/-
  What is to be done next, and next: a trampoline's steps, counted; what comes of a thunk is handed on.
-/
/-
  Contracts: what ask lays ahead of what it was asked for, and behind.
-/
/-
  Contracts: ask.
-/
import Derived.Test.YthfjmcomhccbaaaGreatDoorE3m
namespace Go.Proofs.YthfjmcomhccbaaaGreatDoor
open Go.RowKit Tmx Evx
set_option maxRecDepth 60000

/-- As Ste, but for the block x. -/
structure SteX (x : Nat) (g : Gh) (w : World) (g' : Gh) (w' : World) : Prop where
  le : Gh.le w.heap.size g g'
  os : w'.os = w.os
  tape : w'.tape = w.tape
  output : w'.output = w.output
  size : w.heap.size ≤ w'.heap.size
  block : ∀ k, k < w.heap.size → g.l k = none → k ≠ x → w'.heap[k]? = w.heap[k]?
  cell : (∃ u p, Blk w x #[u, p] 81) → ∃ u p, Blk w' x #[u, p] 81
  inv : Inv g' w'
theorem SteX.trans {x : Nat} {g g' g'' : Gh} {w w' w'' : World} (h : SteX x g w g' w') (k : SteX x g' w' g'' w'') : SteX x g w g'' w'' :=
  ⟨h.le.trans k.le h.size, k.os.trans h.os, k.tape.trans h.tape, k.output.trans h.output, Nat.le_trans h.size k.size,
    fun b hb hn hx => (k.block b (Nat.lt_of_lt_of_le hb h.size) (h.le.ln b hb hn) hx).trans (h.block b hb hn hx), fun e => k.cell (h.cell e), k.inv⟩
/-- A block of the caller's own. -/
structure Mine (x : Nat) (g : Gh) (w : World) : Prop where
  lt : x < w.heap.size
  l : g.l x = none
  o : ¬ g.o x
  blk : ∃ u p, Blk w x #[u, p] 81
theorem Ste.x {x : Nat} {g g' : Gh} {w w' : World} (h : Ste g w g' w') (m : Mine x g w) : SteX x g w g' w' :=
  ⟨h.le, h.keep.os, h.keep.tape, h.keep.output, h.keep.size, fun k hk hl _ => h.keep.block k hk hl, fun ⟨u, p, hb⟩ => ⟨u, p, h.keep.blk hb m.l⟩, h.inv⟩
theorem Mine.step {x : Nat} {g g' : Gh} {w w' : World} (m : Mine x g w) (h : SteX x g w g' w') : Mine x g' w' := ⟨Nat.lt_of_lt_of_le m.lt h.size, h.le.ln x m.lt m.l, fun e => m.o (h.le.on x m.lt e), h.cell m.blk⟩
theorem SteX.mor {x : Nat} {g g' : Gh} {w w' : World} (h : SteX x g w g' w') (hi : Inv g w) (m : ¬ g.o x) : Mor g w g' w' :=
  ⟨h.le.l, h.le.v, h.le.o, fun b hb => h.block b (hi.o b hb).2 (hi.o b hb).1 (fun e => m (e ▸ hb))⟩

/-- The caller's own blocks are written, and nothing else. -/
structure Pri (g : Gh) (w w' : World) : Prop where
  os : w'.os = w.os
  tape : w'.tape = w.tape
  output : w'.output = w.output
  size : w.heap.size ≤ w'.heap.size
  same : ∀ b, g.l b ≠ none ∨ g.o b → w'.heap[b]? = w.heap[b]?
theorem Pri.refl (g : Gh) (w : World) : Pri g w w := ⟨rfl, rfl, rfl, Nat.le_refl _, fun _ _ => rfl⟩
theorem Pri.trans {g : Gh} {a b c : World} (h : Pri g a b) (k : Pri g b c) : Pri g a c :=
  ⟨k.os.trans h.os, k.tape.trans h.tape, k.output.trans h.output, Nat.le_trans h.size k.size, fun x hx => (k.same x hx).trans (h.same x hx)⟩
theorem Pri.mor {g : Gh} {w w' : World} (h : Pri g w w') : Mor g w g w' := ⟨fun _ _ e => e, fun _ _ e => e, fun _ e => e, fun b hb => h.same b (.inr hb)⟩
theorem Pri.inv {g : Gh} {w w' : World} (h : Pri g w w') (hi : Inv g w) : Inv g w' :=
  ⟨fun b t e => (hi.l b t e).along h.mor (h.same b (.inl (by rw [e]; exact fun k => by cases k))), fun b v e => (hi.v b v e).along h.mor, fun b e => ⟨(hi.o b e).1, Nat.lt_of_lt_of_le (hi.o b e).2 h.size⟩⟩
theorem Pri.set2 {g : Gh} {w : World} {b : Nat} (hl : g.l b = none) (ho : ¬ g.o b) (x y : Value) : Pri g w ((w.setCell ⟨b, 0, none⟩ x).setCell ⟨b, 1, none⟩ y) :=
  ⟨rfl, rfl, rfl, by simp [World.setCell], fun k hk => by
    have hne : k ≠ b := by
      rintro rfl
      rcases hk with hk | hk
      · exact hk hl
      · exact ho hk
    rw [Below.heap_setCell _ _ _ _ hne, Below.heap_setCell _ _ _ _ hne]⟩
theorem Pri.below {g : Gh} {w w' : World} (hi : Inv g w) (hb : Below w.heap.size w w') : Pri g w w' := ⟨hb.os, hb.tape, hb.output, hb.size, fun b h => hb.block b (by
  rcases h with h | h
  · cases e : g.l b with
    | none => exact absurd e h
    | some t => exact hi.l_lt e
  · exact (hi.o b h).2)⟩

/-- The function c is entered where it is called. -/
def Enters (c : Nat) : Prop := ∀ a W, Sem.run Tryz.prog (callFunc c a) W = .ok (Next.enter c a) W
/-- So many rounds at most are to come, where what is next is held in the block x; behind them is Q. -/
def Tramp (x : Nat) (Q : World → Prop) : Nat → Value → World → Prop
  | 0, nv, w => ∃ p, nv = .agg #[.nilFunc, .pointer p] ∧ Q w
  | k + 1, nv, w => (∃ p, nv = .agg #[.nilFunc, .pointer p] ∧ Q w) ∨ ∃ c fi ca p, nv = .agg #[.func (.func c) fi ca, .pointer p] ∧ Enters c ∧
      Calls Tryz.prog c (fi ++ #[.pointer p] ++ ca) w fun e w' => ∃ a p', e = .returned (.agg #[a, .pointer p']) ∧ (a = .nilFunc ∨ ∃ c fi ca, a = .func c fi ca) ∧ (∃ u p, Blk w' x #[u, p] 81) ∧ Tramp x Q k (.agg #[a, .pointer p']) ((w'.setCell ⟨x, 0, none⟩ a).setCell ⟨x, 1, none⟩ (.pointer p'))
theorem Tramp.succ {x : Nat} {Q : World → Prop} : ∀ {k : Nat} {nv : Value} {w : World}, Tramp x Q k nv w → Tramp x Q (k + 1) nv w
  | 0, _, _, h => .inl h
  | k + 1, _, _, h => by
    rcases h with h | ⟨c, fi, ca, p, e, hc, h⟩
    · exact .inl h
    · refine .inr ⟨c, fi, ca, p, e, hc, h.mono ?_⟩
      rintro e w' ⟨a, p', he, ha, hb, ht⟩
      exact ⟨a, p', he, ha, hb, ht.succ⟩
theorem Tramp.mono {x : Nat} {Q : World → Prop} {k k' : Nat} {nv : Value} {w : World} (hk : k ≤ k') (h : Tramp x Q k nv w) : Tramp x Q k' nv w := by
  induction hk with
  | refl => exact h
  | step _ ih => exact ih.succ

/-- A value to come is handed to 'to', at most so many rounds later; there D holds of it. -/
def Cont (B : Nat) (v : V) (to : Value) (D : World → Nat → Prop) (g : Gh) (w : World) (nv : Value) : Prop :=
  ∀ w1, Pri g w w1 → ∀ x, Mine x g w1 → ∀ k Q, (∀ g2 w2 q, SteX x g w1 g2 w2 → g2.v q = some v → D w2 q → Tramp x Q k (.agg #[to, ptr q]) w2) → Tramp x Q (k + B) nv w1
def TT (_ : World) (_ : Nat) : Prop := True
/-- What a function answers that hands a value on. -/
def NxP (g : Gh) (w : World) (v : V) (to : Value) (B : Nat) (D : World → Nat → Prop) (e : Ending) (w' : World) : Prop :=
  ∃ g' c fi ca p, e = .returned (.agg #[.func (.func c) fi ca, .pointer p]) ∧ Ste g w g' w' ∧ Cont B v to D g' w' (.agg #[.func (.func c) fi ca, .pointer p])

theorem Cont.pri {B : Nat} {v : V} {to : Value} {D : World → Nat → Prop} {g : Gh} {w w' : World} {nv : Value} (h : Cont B v to D g w nv) (p : Pri g w w') : Cont B v to D g w' nv :=
  fun w1 p1 => h w1 (p.trans p1)
theorem Cont.more {B B' : Nat} {v : V} {to : Value} {D : World → Nat → Prop} {g : Gh} {w : World} {nv : Value} (h : Cont B v to D g w nv) (hB : B ≤ B') : Cont B' v to D g w nv :=
  fun w1 p x m k Q hQ => (h w1 p x m k Q hQ).mono (by omega)
theorem Cont.weak {B : Nat} {v : V} {to : Value} {D : World → Nat → Prop} {g : Gh} {w : World} {nv : Value} (h : Cont B v to D g w nv) : Cont B v to TT g w nv :=
  fun w1 p x m k Q hQ => h w1 p x m k Q fun g2 w2 q hs hv _ => hQ g2 w2 q hs hv trivial
/-- It is there. -/
theorem Cont.here {B : Nat} {v : V} {to : Value} {D : World → Nat → Prop} {g : Gh} {w : World} {q : Nat} (hi : Inv g w) (hv : g.v q = some v) (hd : ∀ w1, Pri g w w1 → D w1 q) : Cont B v to D g w (.agg #[to, ptr q]) :=
  fun w1 p x m k Q hQ => (hQ g w1 q ((Ste.refl (p.inv hi)).x m) hv (hd w1 p)).mono (by omega)
/-- One behind the other: what is handed to the function c1 there, it works something out of, and hands that on. -/
theorem Cont.bind {B1 B2 : Nat} {v1 v : V} {to : Value} {c1 : Nat} {fi1 ca1 : Array Value} {D1 D : World → Nat → Prop} {g : Gh} {w : World} {nv : Value} (hi : Inv g w) (h1 : Cont B1 v1 (.func (.func c1) fi1 ca1) D1 g w nv) (hc : Enters c1)
    (h2 : ∀ x g2 w2 q, Mor g w g2 w2 → Inv g2 w2 → Mine x g2 w2 → g2.v q = some v1 → D1 w2 q → Calls Tryz.prog c1 (fi1 ++ #[ptr q] ++ ca1) w2 (NxP g2 w2 v to B2 D)) : Cont (B1 + B2 + 1) v to D g w nv := by
  intro w1 p x m k Q hQ
  have hi1 := p.inv hi
  refine Tramp.mono (k := k + B2 + 1 + B1) (by omega) (h1 w1 p x m (k + B2 + 1) Q ?_)
  intro g2 w2 q hs hv hd
  have m2 := m.step hs
  refine .inr ⟨c1, fi1, ca1, _, rfl, hc, (h2 x g2 w2 q (p.mor.trans (hs.mor hi1 m.o)) hs.inv m2 hv hd).mono ?_⟩
  rintro e w3 ⟨g3, c, fi, ca, p3, rfl, hs3, hC⟩
  have m3 := m2.step (hs3.x m2)
  refine ⟨_, _, rfl, .inr ⟨_, _, _, rfl⟩, m3.blk, ?_⟩
  obtain ⟨u3, p3', hb3⟩ := m3.blk
  have hp := Pri.set2 (w := w3) m3.l m3.o (.func (.func c) fi ca) (.pointer p3)
  have hb4 := hb3.set2 (.func (.func c) fi ca) (.pointer p3)
  have m4 : Mine x g3 ((w3.setCell ⟨x, 0, none⟩ (.func (.func c) fi ca)).setCell ⟨x, 1, none⟩ (.pointer p3)) := ⟨Nat.lt_of_lt_of_le m3.lt hp.size, m3.l, m3.o, _, _, hb4⟩
  have hx : SteX x g3 w3 g3 ((w3.setCell ⟨x, 0, none⟩ (.func (.func c) fi ca)).setCell ⟨x, 1, none⟩ (.pointer p3)) :=
    ⟨.refl _ _, rfl, rfl, rfl, hp.size, fun b _ _ hb => by rw [Below.heap_setCell _ _ _ _ hb, Below.heap_setCell _ _ _ _ hb], fun _ => ⟨_, _, hb4⟩, hp.inv hs3.inv⟩
  exact (hC _ hp x m4 k Q fun g4 w4 q4 hs4 hv4 hd4 => hQ g4 w4 q4 (((hs.trans (hs3.x m2)).trans hx).trans hs4) hv4 hd4)
end Go.Proofs.YthfjmcomhccbaaaGreatDoor

namespace Go.Proofs.YthfjmcomhccbaaaGreatDoor
open Go.RowKit Tmx Evx
set_option maxRecDepth 60000

theorem LaterOK.blk {g : Gh} {w : World} {b : Nat} {t : Th} (h : LaterOK g w b t) : ∃ x y, Blk w b #[x, y] 85 := by
  rcases h with ⟨q, v, hb, _⟩ | ⟨x, hb, _⟩
  · exact ⟨_, _, hb⟩
  · exact ⟨_, _, hb⟩

set_option maxHeartbeats 1000000 in
/-- What was worked out is laid down, and handed on. -/
theorem laid_any (q bl bt b c : Nat) (fi ca : Array Value) (t : Th) (v : V) (g : Gh) (w : World) (hi : Inv g w) (hbl : BlkO g w bl #[ptr b] 43) (hbt : BlkO g w bt #[.func (.func c) fi ca] 79) (hl : g.l b = some t) (hv : g.v q = some v) (hy : Evx.Yields t v) :
    Calls Tryz.prog 48 #[ptr q, ptr bl, ptr bt] w fun e w' => e = .returned (.agg #[.func (.func c) fi ca, ptr q]) ∧ Ste g w g w' ∧ Blk w' b #[.nilFunc, ptr q] 85 := by
  obtain ⟨x0, y0, hB⟩ := (hi.l b t hl).blk
  have hlb := hB.lt
  have hlbl := hbl.2.lt
  have hlbt := hbt.2.lt
  have hne1 : b ≠ bl := fun e => by have := (hi.o bl hbl.1).1; rw [← e, hl] at this; cases this
  have hne2 : b ≠ bt := fun e => by have := (hi.o bt hbt.1).1; rw [← e, hl] at this; cases this
  unfold ptr at *
  obtain ⟨W, hW, hb1, R, hz⟩ := lay1 w #[.nilFunc, .pointer none] 81
  have hBW := hB.below hb1
  have hblW := hbl.2.below hb1
  have hbtW := hbt.2.below hb1
  obtain ⟨c0, c1, c2, c3⟩ := hBW.two
  obtain ⟨d0, d1⟩ := hblW.one
  obtain ⟨e0, e1⟩ := hbtW.one
  obtain ⟨r0, r1, r2, r3⟩ := R.two
  -- behind the two stores
  have hB2 := hBW.set2 .nilFunc (.pointer (some ⟨q, 0, none⟩))
  have hbt2 : Blk ((W.setCell ⟨b, 0, none⟩ .nilFunc).setCell ⟨b, 1, none⟩ (.pointer (some ⟨q, 0, none⟩))) bt #[.func (.func c) fi ca] 79 := (hbtW.setOther (fun e => hne2 e.symm) _).setOther (fun e => hne2 e.symm) _
  have R2 : Blk ((W.setCell ⟨b, 0, none⟩ .nilFunc).setCell ⟨b, 1, none⟩ (.pointer (some ⟨q, 0, none⟩))) w.heap.size #[.nilFunc, .pointer none] 81 := (R.setOther (by show w.heap.size ≠ b; omega) _).setOther (by show w.heap.size ≠ b; omega) _
  have HS : Hid (Ste g w g ((W.setCell ⟨b, 0, none⟩ .nilFunc).setCell ⟨b, 1, none⟩ (.pointer (some ⟨q, 0, none⟩)))) := by
    have h1 := Ste.below hi hb1
    have h2 := Ste.done (w' := (W.setCell ⟨b, 0, none⟩ .nilFunc).setCell ⟨b, 1, none⟩ (.pointer (some ⟨q, 0, none⟩))) h1.inv hl hv hy rfl rfl rfl (by simp [World.setCell]) hB2 (fun k hk => by rw [Below.heap_setCell _ _ _ _ hk, Below.heap_setCell _ _ _ _ hk])
    exact h1.trans h2
  have HR : Hid (g.l w.heap.size = none ∧ ¬ g.o w.heap.size) := ⟨hi.l_new (Nat.le_refl _), hi.o_new (Nat.le_refl _)⟩
  have HB2 : Hid (Blk ((W.setCell ⟨b, 0, none⟩ .nilFunc).setCell ⟨b, 1, none⟩ (.pointer (some ⟨q, 0, none⟩))) b #[.nilFunc, .pointer (some ⟨q, 0, none⟩)] 85) := hB2
  have HR2 : Hid (Blk ((W.setCell ⟨b, 0, none⟩ .nilFunc).setCell ⟨b, 1, none⟩ (.pointer (some ⟨q, 0, none⟩))) w.heap.size #[.nilFunc, .pointer none] 81) := R2
  obtain ⟨f0, f1⟩ := hbt2.one
  obtain ⟨s0, s1, s2, s3⟩ := R2.two
  have HNE : Hid (w.heap.size ≠ b) := by show w.heap.size ≠ b; omega
  clear hi hbl hbt hl hv hy hB hblW hbtW hBW hB2 R2 hb1
  go_enter Tryz.func48, Tryz.ntmps48
  go_wp2_with fail
  go_region
  obtain ⟨X, hX⟩ : ∃ X, ((W.setCell ⟨b, 0, none⟩ .nilFunc).setCell ⟨b, 1, none⟩ (.pointer (some ⟨q, 0, none⟩))).drew = X := ⟨_, rfl⟩
  have HSX : Hid (Ste g w g X) := hX ▸ HS.out.trans (.drew HS.out.inv)
  have HBX : Hid (Blk X b #[.nilFunc, .pointer (some ⟨q, 0, none⟩)] 85) := hX ▸ HB2.out
  have HRX : Blk X w.heap.size #[.nilFunc, .pointer none] 81 := hX ▸ HR2.out
  have hbtX : Blk X bt #[.func (.func c) fi ca] 79 := hX ▸ hbt2
  rw [hX]
  clear hX f0 f1 s0 s1 s2 s3 hbt2 hW
  obtain ⟨f0, f1⟩ := hbtX.one
  obtain ⟨s0, s1, s2, s3⟩ := HRX.two
  go_wp2_with fail
  obtain ⟨g0, g1, _, _⟩ := (HRX.set2 (.func (.func c) fi ca) (.pointer (some ⟨q, 0, none⟩))).two
  refine bodyPost_ret (v := .agg #[.func (.func c) fi ca, .pointer (some ⟨q, 0, none⟩)]) (by simp [results, Tryz.results48, go_sem, g0, g1]) rfl ⟨rfl, Ste.set2 HSX.out (Nat.le_refl _) HR.out.1 HR.out.2 _ _, ?_⟩
  exact (HBX.out.setOther (fun e => HNE.out e.symm) _).setOther (fun e => HNE.out e.symm) _
end Go.Proofs.YthfjmcomhccbaaaGreatDoor

namespace Go.Proofs.YthfjmcomhccbaaaGreatDoor
open Go.RowKit Tmx Evx
set_option maxRecDepth 60000

/-- Boxes that stay are laid; what lies behind them is the caller's own. -/
theorem lay_box {g : Gh} {w W : World} (hi : Inv g w) (hb : Below w.heap.size w W) (n : Nat) (hz : w.heap.size + n ≤ W.heap.size) :
    ∃ g1, Ste g w g1 W ∧ Mor g w g1 W ∧ (∀ b, w.heap.size ≤ b → b < w.heap.size + n → g1.o b) ∧ (∀ b, w.heap.size + n ≤ b → g1.l b = none ∧ ¬ g1.o b) := by
  obtain ⟨h1, h2⟩ := (Ste.refl hi).grow hb (fun k => w.heap.size ≤ k ∧ k < w.heap.size + n) (fun k h => by omega)
  refine ⟨_, h1, h2, fun b h h' => .inr ⟨h, h'⟩, fun b h => ⟨hi.l_new (by omega), fun e => ?_⟩⟩
  rcases e with e | e
  · exact hi.o_new (by omega) e
  · omega

theorem Tramp.next {B : Nat} {v : V} {to : Value} {c1 : Nat} {fi1 ca1 : Array Value} {p : Option Addr} {D : World → Nat → Prop} {g : Gh} {w : World} {x k : Nat} {Q : World → Prop} (hc : Enters c1) (m : Mine x g w)
    (h2 : Calls Tryz.prog c1 (fi1 ++ #[.pointer p] ++ ca1) w (NxP g w v to B D)) (hQ : ∀ g2 w2 q, SteX x g w g2 w2 → g2.v q = some v → D w2 q → Tramp x Q k (.agg #[to, ptr q]) w2) : Tramp x Q (k + B + 1) (.agg #[.func (.func c1) fi1 ca1, .pointer p]) w := by
  refine .inr ⟨c1, fi1, ca1, _, rfl, hc, h2.mono ?_⟩
  rintro e w3 ⟨g3, c, fi, ca, p3, rfl, hs3, hC⟩
  have m3 := m.step (hs3.x m)
  refine ⟨_, _, rfl, .inr ⟨_, _, _, rfl⟩, m3.blk, ?_⟩
  obtain ⟨u3, p3', hb3⟩ := m3.blk
  have hp := Pri.set2 (w := w3) m3.l m3.o (.func (.func c) fi ca) (.pointer p3)
  have hb4 := hb3.set2 (.func (.func c) fi ca) (.pointer p3)
  have m4 : Mine x g3 ((w3.setCell ⟨x, 0, none⟩ (.func (.func c) fi ca)).setCell ⟨x, 1, none⟩ (.pointer p3)) := ⟨Nat.lt_of_lt_of_le m3.lt hp.size, m3.l, m3.o, _, _, hb4⟩
  have hx : SteX x g3 w3 g3 ((w3.setCell ⟨x, 0, none⟩ (.func (.func c) fi ca)).setCell ⟨x, 1, none⟩ (.pointer p3)) :=
    ⟨.refl _ _, rfl, rfl, rfl, hp.size, fun b _ _ hb => by rw [Below.heap_setCell _ _ _ _ hb, Below.heap_setCell _ _ _ _ hb], fun _ => ⟨_, _, hb4⟩, hp.inv hs3.inv⟩
  exact hC _ hp x m4 k Q fun g4 w4 q4 hs4 hv4 hd4 => hQ g4 w4 q4 (((hs3.x m).trans hx).trans hs4) hv4 hd4

/-- What works thunks out that come to something with so much fuel. -/
def DoingP (s B : Nat) : Prop := ∀ (g : Gh) (w : World) (x : Value) (t : Th) (v : V) (c : Nat) (fi ca : Array Value), Inv g w → DoIs g w x t → ev s t = some v →
  ∃ c1 fi1 ca1, x = .func (.func c1) fi1 ca1 ∧ Enters c1 ∧ Calls Tryz.prog c1 (fi1 ++ #[.func (.func c) fi ca] ++ ca1) w (NxP g w v (.func (.func c) fi ca) B TT)
/-- The thunk of the block b was worked out to that of q. -/
def DN (b : Nat) (w : World) (q : Nat) : Prop := Blk w b #[.nilFunc, ptr q] 85
theorem DN.pri {b q : Nat} {g : Gh} {w w' : World} {t : Th} (hl : g.l b = some t) (h : DN b w q) (p : Pri g w w') : DN b w' q := Blk.of_eq h (p.same b (.inl (by rw [hl]; exact fun k => by cases k)))

theorem ent_ask11 : Enters 48 := fun a W => by kernel_rfl
theorem ent_ask1 : Enters 47 := fun a W => by kernel_rfl
theorem ent_ask : Enters 29 := fun a W => by kernel_rfl

theorem eql_nn (W : World) : Sem.run Tryz.prog (binOp BinOp.eql 83 .nilFunc .nilFunc) W = .ok (.bool true) W := by kernel_rfl
theorem eql_fn (f : Fn) (a b : Array Value) (W : World) : Sem.run Tryz.prog (binOp BinOp.eql 83 (.func f a b) .nilFunc) W = .ok (.bool false) W := by kernel_rfl

set_option maxHeartbeats 1000000 in
/-- What was asked for is worked out. -/
theorem asked_any (s B : Nat) (hD : DoingP s B) (p : Option Addr) (bl bt b c : Nat) (fi ca : Array Value) (t : Th) (v : V) (x : Value) (g : Gh) (w : World) (hi : Inv g w) (hbl : BlkO g w bl #[ptr b] 43) (hbt : BlkO g w bt #[.func (.func c) fi ca] 79) (hl : g.l b = some t)
    (hB : Blk w b #[x, .pointer none] 85) (hd : DoIs g w x t) (hv : ev s t = some v) :
    Calls Tryz.prog 47 #[.pointer p, ptr bl, ptr bt] w (NxP g w v (.func (.func c) fi ca) (B + 1) (DN b)) := by
  unfold ptr at *
  obtain ⟨W, hW, hb1, R, hz⟩ := lay1 w #[.nilFunc, .pointer none] 81
  have h1 := Ste.below hi hb1
  have hm1 := h1.mor hi
  obtain ⟨c1, fi1, ca1, rfl, HE, HC⟩ := hD g W x t v 48 #[] #[.pointer (some ⟨bl, 0, none⟩), .pointer (some ⟨bt, 0, none⟩)] h1.inv (hd.along hm1) hv
  unfold Enters at HE
  obtain ⟨c0, _, _, _⟩ := (hB.below hb1).two
  obtain ⟨d0, _⟩ := (hbl.2.below hb1).one
  obtain ⟨r0, r1, r2, r3⟩ := R.two
  have HS : Hid (Ste g w g W) := h1
  have HO : Hid (BlkO g W bl #[.pointer (some ⟨b, 0, none⟩)] 43 ∧ BlkO g W bt #[.func (.func c) fi ca] 79 ∧ g.l b = some t ∧ g.l w.heap.size = none ∧ ¬ g.o w.heap.size ∧ Blk W w.heap.size #[.nilFunc, .pointer none] 81 ∧ ev s t = some v) :=
    ⟨hbl.along hm1, hbt.along hm1, hl, hi.l_new (Nat.le_refl _), hi.o_new (Nat.le_refl _), R, hv⟩
  clear hi hbl hbt hl hB hd hv hb1 h1 hm1 hD
  go_enter Tryz.func47, Tryz.ntmps47
  go_wp2_with fail
  refine HC.mono ?_
  rintro e w2 ⟨g2, c3, fi3, ca3, p3, rfl, hs2, hC2⟩
  obtain ⟨hbl, hbt, hl, hl0, ho0, R, hv⟩ := HO.out
  obtain ⟨hl2, ho2, hsame⟩ := HS.out.mine hs2 R.lt hl0 ho0
  have R2 := R.of_eq hsame
  have HF : Hid (Ste g w g2 ((w2.setCell ⟨w.heap.size, 0, none⟩ (.func (.func c3) fi3 ca3)).setCell ⟨w.heap.size, 1, none⟩ (.pointer p3)) ∧ Cont (B + 1) v (.func (.func c) fi ca) (DN b) g2 ((w2.setCell ⟨w.heap.size, 0, none⟩ (.func (.func c3) fi3 ca3)).setCell ⟨w.heap.size, 1, none⟩ (.pointer p3)) (.agg #[.func (.func c3) fi3 ca3, .pointer p3])) := by
    have hp := Pri.set2 (w := w2) hl2 ho2 (.func (.func c3) fi3 ca3) (.pointer p3)
    refine ⟨Ste.set2 (HS.out.trans hs2) (Nat.le_refl _) hl2 ho2 _ _, Cont.bind (B1 := B) (B2 := 0) (hp.inv hs2.inv) (hC2.pri hp) ent_ask11 ?_⟩
    intro x g3 w3 q hmo hi3 hmine hv3 _
    have hm2 := ((hs2.mor HS.out.inv).trans hp.mor).trans hmo
    have hL := laid_any q bl bt b c fi ca t v g3 w3 hi3 (hbl.along hm2) (hbt.along hm2) (hm2.l _ _ hl) hv3 ⟨s, hv⟩
    refine hL.mono ?_
    rintro e w4 ⟨rfl, hs4, hB4⟩
    exact ⟨g3, _, _, _, _, rfl, hs4, .here hs4.inv hv3 fun w5 hp5 => DN.pri (hm2.l _ _ hl) hB4 hp5⟩
  obtain ⟨s0, s1, s2, s3⟩ := R2.two
  obtain ⟨g0, g1, _, _⟩ := (R2.set2 (.func (.func c3) fi3 ca3) (.pointer p3)).two
  clear hbl hbt hl hl0 ho0 R hv hsame hs2 hC2 HC hl2 ho2 R2
  go_wp2_with fail
  refine bodyPost_ret (v := .agg #[.func (.func c3) fi3 ca3, .pointer p3]) (by simp [results, Tryz.results47, go_sem, g0, g1]) rfl ⟨g2, c3, fi3, ca3, p3, rfl, HF.out.1, HF.out.2⟩

set_option maxHeartbeats 1000000 in
theorem ask_any (s B : Nat) (hD : DoingP s B) (b c : Nat) (fi ca : Array Value) (t : Th) (v : V) (g : Gh) (w : World) (hi : Inv g w) (hl : g.l b = some t) (hv : ev s t = some v) :
    Calls Tryz.prog 29 #[ptr b, .func (.func c) fi ca] w (NxP g w v (.func (.func c) fi ca) (B + 2) (DN b)) := by
  obtain ⟨W, hW, hb1, B1, B2, R, hz⟩ := lay3 w #[.pointer (some ⟨b, 0, none⟩)] #[.func (.func c) fi ca] #[.nilFunc, .pointer none] 43 79 81
  have hok := hi.l b t hl
  have hlt := hok.lt
  unfold ptr at *
  obtain ⟨g1, hs1, hm1, hin, hout⟩ := lay_box hi hb1 2 (by omega)
  obtain ⟨a0, a1⟩ := B1.one
  obtain ⟨b0, b1⟩ := B2.one
  obtain ⟨r0, r1, r2, r3⟩ := R.two
  have HR : Hid (g1.l (w.heap.size + 1 + 1) = none ∧ ¬ g1.o (w.heap.size + 1 + 1)) := hout _ (by omega)
  have HS : Hid (Ste g w g1 W) := hs1
  have HO : Hid (g1.l b = some t ∧ ev s t = some v ∧ BlkO g1 W w.heap.size #[.pointer (some ⟨b, 0, none⟩)] 43 ∧ BlkO g1 W (w.heap.size + 1) #[.func (.func c) fi ca] 79 ∧ DoingP s B) := ⟨hm1.l _ _ hl, hv, ⟨hin _ (by omega) (by omega), B1⟩, ⟨hin _ (by omega) (by omega), B2⟩, hD⟩
  clear hin hout
  rcases hok with ⟨q, v', hbb, hvq, hy⟩ | ⟨x, hbb, ⟨fx, fy, fz, rfl⟩, hd⟩
  · have hvv : v' = v := Evx.Yields.unique hy ⟨s, hv⟩
    subst hvv
    have hbW := hbb.below hb1
    obtain ⟨c0, c1, _, _⟩ := hbW.two
    have HQ : Hid (g1.v q = some v' ∧ DN b W q) := ⟨hm1.v _ _ hvq, hbW⟩
    unfold ptr at *
    clear hi hl hv hbb hvq hy hb1 hs1 hm1 hbW hD
    have hnn := eql_nn
    go_enter Tryz.func29, Tryz.ntmps29
    go_wp2_with fail
    go_region
    obtain ⟨X, hX⟩ : ∃ X, ((W.setCell ⟨w.heap.size + 1 + 1, 0, none⟩ (.func (.func c) fi ca)).setCell ⟨w.heap.size + 1 + 1, 1, none⟩ (.pointer (some ⟨q, 0, none⟩))).drew = X := ⟨_, rfl⟩
    have hRX : Blk X (w.heap.size + 1 + 1) #[.func (.func c) fi ca, .pointer (some ⟨q, 0, none⟩)] 81 := hX ▸ R.set2 _ _
    have hSX : Ste g w g1 X := by
      have h := Ste.set2 HS.out (b := w.heap.size + 1 + 1) (by omega) HR.out.1 HR.out.2 (.func (.func c) fi ca) (.pointer (some ⟨q, 0, none⟩))
      exact hX ▸ h.trans (.drew h.inv)
    have hDX : DN b X q := by
      have h := (Blk.setOther (x := ⟨w.heap.size + 1 + 1, 0, none⟩) HQ.out.2 (by show b ≠ w.heap.size + 1 + 1; omega) (.func (.func c) fi ca)).setOther (x := ⟨w.heap.size + 1 + 1, 1, none⟩) (by show b ≠ w.heap.size + 1 + 1; omega) (.pointer (some ⟨q, 0, none⟩))
      exact hX ▸ h
    have HF : Hid (NxP g w v' (.func (.func c) fi ca) (B + 2) (DN b) (.returned (.agg #[.func (.func c) fi ca, .pointer (some ⟨q, 0, none⟩)])) X) :=
      ⟨_, _, _, _, _, rfl, hSX, .here hSX.inv HQ.out.1 fun w5 hp5 => DN.pri HO.out.1 hDX hp5⟩
    rw [hX]
    clear hX hSX hDX hW R hnn
    obtain ⟨s0, s1, _, _⟩ := hRX.two
    go_wp2_with fail
    refine bodyPost_ret (v := .agg #[.func (.func c) fi ca, .pointer (some ⟨q, 0, none⟩)]) (by simp [results, Tryz.results29, go_sem, s0, s1]) rfl HF.out
  · have hbW := hbb.below hb1
    obtain ⟨c0, c1, _, _⟩ := hbW.two
    have HQ : Hid (DoIs g1 W (.func fx fy fz) t ∧ Blk W b #[.func fx fy fz, .pointer none] 85) := ⟨hd.along hm1, hbW⟩
    clear hi hl hv hbb hb1 hs1 hm1 hbW hD hd
    have hnf := eql_fn
    go_enter Tryz.func29, Tryz.ntmps29
    go_wp2_with fail
    have hR2 := R.set2 (.func (.func 47) #[] #[.pointer (some ⟨w.heap.size, 0, none⟩), .pointer (some ⟨w.heap.size + 1, 0, none⟩)]) (.pointer none)
    obtain ⟨s0, s1, _, _⟩ := hR2.two
    obtain ⟨hl, hv, O1, O2, hD⟩ := HO.out
    have hp := Pri.set2 (w := W) HR.out.1 HR.out.2 (.func (.func 47) #[] #[.pointer (some ⟨w.heap.size, 0, none⟩), .pointer (some ⟨w.heap.size + 1, 0, none⟩)]) (.pointer none)
    refine bodyPost_ret (v := .agg #[.func (.func 47) #[] #[.pointer (some ⟨w.heap.size, 0, none⟩), .pointer (some ⟨w.heap.size + 1, 0, none⟩)], .pointer none]) (by simp [results, Tryz.results29, go_sem, s0, s1]) rfl
      ⟨_, _, _, _, _, rfl, Ste.set2 HS.out (by omega) HR.out.1 HR.out.2 _ _, ?_⟩
    intro w1 p x m k Q hQ
    have hi1 := (hp.trans p).inv HS.out.inv
    have hmo := (hp.trans p).mor
    have hbx : Blk w1 b #[.func fx fy fz, .pointer none] 85 := HQ.out.2.of_eq ((hp.trans p).same b (.inl (by rw [hl]; exact fun k => by cases k)))
    have h1 := asked_any s B hD none w.heap.size (w.heap.size + 1) b c fi ca t v (.func fx fy fz) _ w1 hi1 (O1.along hmo) (O2.along hmo) hl hbx (HQ.out.1.along hmo) hv
    have h2 : Tramp x Q (k + (B + 1) + 1) (.agg #[.func (.func 47) #[] #[.pointer (some ⟨w.heap.size, 0, none⟩), .pointer (some ⟨w.heap.size + 1, 0, none⟩)], .pointer none]) w1 :=
      Tramp.next (D := DN b) (v := v) (to := .func (.func c) fi ca) ent_ask1 m (by unfold ptr at h1; exact h1) hQ
    exact Tramp.mono (Nat.le_of_eq (by omega)) h2
end Go.Proofs.YthfjmcomhccbaaaGreatDoor
