/-
  Contracts of package term: Copy; what is copied lies in new blocks.
-/
/-
  Contracts of package decl: own.
-/
/-
  Size of a term: so many terms are in it, and it.
-/
import Derived.Test.YthfjmcomhccbaaaGreatDoorI14m
import Derived.Deep.RegionHeld3
import Derived.Test.YthfjmcomhccbaaaGreatDoorMem2m
namespace Go.Proofs.YthfjmcomhccbaaaGreatDoor
open Go.RowKit Tmx Evx
set_option maxRecDepth 60000

theorem RowO.mono {O O' : Nat → Prop} {w : World} (h : ∀ b, O b → O' b) {f : F} {b o : Nat} (hr : RowO O w b o f) : RowO O' w b o f := hr.along h fun _ _ => rfl
theorem SlO.mono {O O' : Nat → Prop} {w : World} (h : ∀ b, O b → O' b) {f : F} {q : Option Addr} (hr : SlO O w q f) : SlO O' w q f := hr.along h fun _ _ => rfl
/-- What lies there lies in blocks that are there. -/
theorem RowO.lt {O : Nat → Prop} {w : World} : ∀ (f : F) (b o : Nat), RowO O w b o f → RowO (old w) w b o f
  | .nil, _, _, _ => trivial
  | .node _ _ a l r, b, o, hr => by
    obtain ⟨_, h1, h2, ⟨p, b', o', cap, h3, h4, h6⟩, h5⟩ := hr
    exact ⟨World.block_lt_of_cell? w ⟨b, o, none⟩ h1, h1, h2, ⟨p, b', o', cap, h3, h4, RowO.lt l b' o' h6⟩, RowO.lt r b (o + 3) h5⟩
theorem SlO.lt {O : Nat → Prop} {w : World} {f : F} {q : Option Addr} (h : SlO O w q f) : SlO (old w) w q f :=
  let ⟨b, o, h1, h2⟩ := h
  ⟨b, o, h1, h2.lt⟩
theorem SlO.nil (O : Nat → Prop) (w : World) (q : Option Addr) : SlO O w q .nil := ⟨0, 0, fun h => by simp [len] at h, trivial⟩
/-- What lies in old blocks lies there later. -/
theorem SlO.below {w w' : World} {f : F} {q : Option Addr} (h : SlO (old w) w q f) (hb : Below w.heap.size w w') : SlO (old w') w' q f :=
  h.along (fun _ hb' => Nat.lt_of_lt_of_le hb' hb.size) fun b hb' => hb.block b hb'
/-- The same where cells of those blocks hold what they held. -/
theorem RowO.carry {O : Nat → Prop} {w w' : World} (h : ∀ b o v, O b → w.cell? ⟨b, o, none⟩ = some v → w'.cell? ⟨b, o, none⟩ = some v) : ∀ (f : F) (b o : Nat), RowO O w b o f → RowO O w' b o f
  | .nil, _, _, _ => trivial
  | .node _ _ a l r, b, o, hr => by
    obtain ⟨h0, h1, h2, ⟨p, b', o', cap, h3, h4, h6⟩, h5⟩ := hr
    exact ⟨h0, h _ _ _ h0 h1, h _ _ _ h0 h2, ⟨p, b', o', cap, h _ _ _ h0 h3, h4, RowO.carry h l b' o' h6⟩, RowO.carry h r b (o + 3) h5⟩
theorem SlO.carry {O : Nat → Prop} {w w' : World} (h : ∀ b o v, O b → w.cell? ⟨b, o, none⟩ = some v → w'.cell? ⟨b, o, none⟩ = some v) {f : F} {q : Option Addr} (hs : SlO O w q f) : SlO O w' q f :=
  let ⟨b, o, h1, h2⟩ := hs
  ⟨b, o, h1, h2.carry h⟩
/-- In blocks from lo on. -/
abbrev fresh (lo : Nat) : Nat → Prop := fun b => lo ≤ b
theorem SlO.setFresh {lo : Nat} {w : World} {p : Option Addr} {f : F} (hs : SlO (fresh lo) w p f) {x : Addr} (hx : x.block < lo) (v : Value) : SlO (fresh lo) (w.setCell x v) p f :=
  hs.carry fun b o u (hb : lo ≤ b) hc => by rw [World.cell?_of_block (w := w) (Below.heap_setCell _ _ _ _ (by show b ≠ x.block; omega))]; exact hc

/-- The first j of the terms f lie in the block B from the cell o on; their own arguments behind that block. -/
def RowPC (B : Nat) (w : World) : Nat → Nat → F → Prop
  | 0, _, _ => True
  | _ + 1, _, .nil => True
  | j + 1, o, .node _ _ a l r =>
    w.cell? ⟨B, o, none⟩ = some (.int .i64 a.1) ∧ w.cell? ⟨B, o + 1, none⟩ = some (.int .i64 a.2) ∧
    (∃ p, ∃ (cap : {c : Nat // len l ≤ c}), w.cell? ⟨B, o + 2, none⟩ = some (.slice p (len l) cap) ∧ SlO (fresh (B + 1)) w p l) ∧ RowPC B w j (o + 3) r
theorem RowPC.carry {B : Nat} {w w' : World} : ∀ (j : Nat) (f : F) (o : Nat), (∀ i v, o ≤ i → i < o + j * 3 → w.cell? ⟨B, i, none⟩ = some v → w'.cell? ⟨B, i, none⟩ = some v) →
    (∀ b o v, B + 1 ≤ b → w.cell? ⟨b, o, none⟩ = some v → w'.cell? ⟨b, o, none⟩ = some v) → RowPC B w j o f → RowPC B w' j o f
  | 0, _, _, _, _, _ => trivial
  | _ + 1, .nil, _, _, _, _ => trivial
  | j + 1, .node _ _ a l r, o, h, h', hr => by
    obtain ⟨h1, h2, ⟨p, cap, h3, h4⟩, h5⟩ := hr
    exact ⟨h _ _ (by omega) (by omega) h1, h _ _ (by omega) (by omega) h2, ⟨p, cap, h _ _ (by omega) (by omega) h3, h4.carry h'⟩, RowPC.carry j r (o + 3) (fun i v hi hi' => h i v (by omega) (by omega)) h' h5⟩
theorem RowPC.snoc {B : Nat} {w : World} {p : Option Addr} {cap : Nat} : ∀ (j : Nat) (f : F) (o : Nat) {x y : Nat} {a : Int × Int} {l r : F}, drop j f = .node x y a l r → RowPC B w j o f →
    w.cell? ⟨B, o + j * 3, none⟩ = some (.int .i64 a.1) → w.cell? ⟨B, o + j * 3 + 1, none⟩ = some (.int .i64 a.2) → w.cell? ⟨B, o + j * 3 + 2, none⟩ = some (.slice p (len l) cap) → len l ≤ cap → SlO (fresh (B + 1)) w p l → RowPC B w (j + 1) o f
  | 0, .nil, _, _, _, _, _, _, e, _, _, _, _, _, _ => by simp [drop] at e
  | 0, .node _ _ _ _ _, o, _, _, _, _, _, e, _, h1, h2, h3, hc, h4 => by
    simp only [drop, Go.Deep.BT.node.injEq] at e
    obtain ⟨_, _, rfl, rfl, rfl⟩ := e
    exact ⟨by simpa using h1, by simpa using h2, ⟨p, ⟨cap, hc⟩, by simpa using h3, h4⟩, trivial⟩
  | j + 1, .nil, _, _, _, _, _, _, e, _, _, _, _, _, _ => by simp [drop] at e
  | j + 1, .node _ _ _ _ r', o, _, _, _, _, _, e, hr, h1, h2, h3, hc, h4 => by
    obtain ⟨g1, g2, g3, g5⟩ := hr
    rw [drop] at e
    have e3 : o + (j + 1) * 3 = o + 3 + j * 3 := by omega
    rw [e3] at h1 h2 h3
    exact ⟨g1, g2, g3, RowPC.snoc j r' (o + 3) e g5 h1 h2 h3 hc h4⟩
theorem RowPC.all {B lo : Nat} {w : World} (hlo : lo ≤ B) : ∀ (f : F) (o : Nat), RowPC B w (len f) o f → RowO (fresh lo) w B o f
  | .nil, _, _ => trivial
  | .node _ _ a l r, o, hr => by
    rw [len] at hr
    obtain ⟨h1, h2, ⟨p, cap, h3, b', o', h4, h6⟩, h5⟩ := hr
    exact ⟨hlo, h1, h2, ⟨p, b', o', cap, h3, h4, h6.mono fun b hb => show lo ≤ b by omega⟩, RowPC.all hlo r (o + 3) h5⟩

theorem uTs : Tryz.prog.underlying 28 = some (.slice 30) := by kernel_rfl
theorem iT : (Tryz.prog.info? 30).map (fun i => (i.zero, i.size, i.bytes)) = some (some (.agg #[.int .i64 0, .int .i64 0, .slice none 0 0]), 3, 40) := by kernel_rfl
/-- The cells of c new terms. -/
def noTs (c : Nat) : Array Value := madeCells #[.int .i64 0, .int .i64 0, .slice none 0 0] (c * 3)
theorem makeTs (c : Nat) (h : c ≤ 1099511627776) (W : World) :
    (Instr.makeSlice 28 (.int .i64 c) (.int .i64 c)).run Tryz.prog W = .ok (.slice (some ⟨W.heap.size, 0, none⟩) c c) (W.alloc (.cells (noTs c) 30)) := by
  obtain ⟨i, hi, he⟩ := Option.map_eq_some_iff.1 iT
  simp only [Prod.mk.injEq] at he
  obtain ⟨hz, hs, hb⟩ := he
  have := run_make (P := Tryz.prog) W 28 30 i _ uTs hi hz .i64 .i64 (c : Int) (c : Int) (by omega) (by omega) (by rw [hb]; omega) (by omega)
  rw [hs, Int.toNat_natCast] at this
  exact this
theorem noTs_row (c : Nat) (w : World) : ∃ G, (w.alloc (.cells (noTs c) 30)).rowIs w.heap.size 30 (c * 3) G := by
  have h := World.rowIs_alloc w (noTs c) 30 (fun i => (noTs c)[i]?.getD .nilFunc) (fun i hi => by simp [hi])
  rw [show (noTs c).size = c * 3 from size_madeCells _ _] at h
  exact ⟨_, h⟩
/-- What is there behind a call that was made where a term's box had been laid last, and a row stood open. -/
theorem rowT_behind {wr w1 : World} {a b c : Value} {B m : Nat} {G : Nat → Value} (hG : wr.rowIs B 30 m G) (hb : Below (wr.alloc (.cells #[a, b, c] 30)).heap.size (wr.alloc (.cells #[a, b, c] 30)) w1) : w1.rowIs B 30 m G :=
  (hG.alloc _).of_block (hb.block _ (by have := hG.lt; simp; omega))
theorem rowT3 {w : World} {B m : Nat} {G : Nat → Value} (hG : w.rowIs B 30 (m * 3) G) {j : Nat} (hj : j < m) :
    (∃ v, w.cell? ⟨B, j * 3, none⟩ = some v) ∧ (∃ v, w.cell? ⟨B, j * 3 + 1, none⟩ = some v) ∧ (∃ v, w.cell? ⟨B, j * 3 + 2, none⟩ = some v) ∧
    w.frozen? ⟨B, j * 3, none⟩ = false ∧ w.frozen? ⟨B, j * 3 + 1, none⟩ = false ∧ w.frozen? ⟨B, j * 3 + 2, none⟩ = false :=
  ⟨⟨_, hG.cell (by omega)⟩, ⟨_, hG.cell (by omega)⟩, ⟨_, hG.cell (by omega)⟩, hG.frozen _, hG.frozen _, hG.frozen _⟩

/-- A term as it is answered: in blocks from lo on. -/
def TmC (lo : Nat) (w : World) (v : Value) (x : Int × Int × F) : Prop := ∃ p, ∃ (cap : {c : Nat // len x.2.2 ≤ c}), v = .agg #[.int .i64 x.1, .int .i64 x.2.1, .slice p (len x.2.2) cap] ∧ SlO (fresh lo) w p x.2.2

set_option maxHeartbeats 4000000 in
theorem copy_any (m : Nat) : ∀ (f : F) (k n : Int) (q : Option Addr) (cap : Nat) (w : World), size f < m → size f ≤ 1099511627776 → SlO (old w) w q f →
    Calls Tryz.prog 62 #[.agg #[.int .i64 k, .int .i64 n, .slice q (len f) cap]] w fun e w' => (∃ v, e = .returned v ∧ TmC w.heap.size w' v (k, n, f)) ∧ Below w.heap.size w w' := by
  induction m with
  | zero => intro f k n q cap w h; omega
  | succ m ih =>
    intro f k n q cap w hm hsz hs
    have H := (show Hid _ from ih)
    clear ih
    have hls := len_le_size f
    cases tl : ((len f : Int) == 0)
    · have hl0 : 0 < len f := by have : (len f : Int) ≠ 0 := by simpa using tl
                                 omega
      have hmk := makeTs (len f) (by omega)
      go_enter Tryz.func62, Tryz.ntmps62
      go_wp2_with fail
      obtain ⟨B, hB⟩ : ∃ B, w.heap.size + 1 + 1 + 1 = B := ⟨_, rfl⟩
      rw [hB]
      have HB : Hid (w.heap.size + 1 + 1 + 1 = B) := hB
      have hB2 : B ≤ w.heap.size + 3 ∧ w.heap.size + 3 ≤ B := by omega
      clear hB
      go_loopw [4, 24] (fun _ i wr => ∃ j : Nat, j ≤ len f ∧ i = .int .i64 j ∧ Below w.heap.size w wr ∧ Box wr w.heap.size (.int .i64 k) (.int .i64 n) (.slice q (len f) cap) ∧ (∃ a0 a1 a2, Box wr (w.heap.size + 1) a0 a1 a2) ∧ Box wr (w.heap.size + 1 + 1) (.int .i64 k) (.int .i64 n) (.slice (some ⟨B, 0, none⟩) (len f) (len f)) ∧
          (∃ G, wr.rowIs B 30 (len f * 3) G) ∧ RowPC B wr j 0 f) (fun _ i _ => len f - (intOf i).toNat)
      case atStart =>
        refine ⟨0, Nat.zero_le _, rfl, ((((Below.refl _ _).alloc (Nat.le_refl _) _).alloc (by simp) _).alloc (by simp; omega) _).alloc (by simp; omega) _, (((Box.new w _ _ _).alloc _).alloc _).alloc _, ⟨.int .i64 0, .int .i64 0, .slice none 0 0, ?_⟩, ?_, ?_, trivial⟩
        · have := (((Box.new (w.alloc (.cells #[.int .i64 k, .int .i64 n, .slice q (len f) cap] 30)) (.int .i64 0) (.int .i64 0) (.slice none 0 0)).alloc (.cells #[.int .i64 k, .int .i64 n, .slice (some ⟨B, 0, none⟩) (len f) (len f)] 30)).alloc (.cells (noTs (len f)) 30))
          rw [World.size_alloc] at this
          exact this
        · have := (Box.new ((w.alloc (.cells #[.int .i64 k, .int .i64 n, .slice q (len f) cap] 30)).alloc (.cells #[.int .i64 0, .int .i64 0, .slice none 0 0] 30)) (.int .i64 k) (.int .i64 n) (.slice (some ⟨B, 0, none⟩) (len f) (len f))).alloc (.cells (noTs (len f)) 30)
          rw [World.size_alloc, World.size_alloc] at this
          exact this
        · have := noTs_row (len f) (((w.alloc (.cells #[.int .i64 k, .int .i64 n, .slice q (len f) cap] 30)).alloc (.cells #[.int .i64 0, .int .i64 0, .slice none 0 0] 30)).alloc (.cells #[.int .i64 k, .int .i64 n, .slice (some ⟨B, 0, none⟩) (len f) (len f)] 30))
          rw [World.size_alloc, World.size_alloc, World.size_alloc, HB.out] at this
          exact this
      case round =>
        clear hmk
        obtain ⟨j, hj, rfl, hb, bx, ⟨a0, a1, a2, by_⟩, bz, ⟨G, hG⟩, hP⟩ := hrel
        by_cases hlt : j < len f
        · obtain ⟨b, o, x, y, k', n', l, r, rfl, e, hO, p, cap', c1, c2, c3, hsl⟩ := (hs.below hb).at hlt
          have hz := size_drop j f
          rw [e, size] at hz
          have E1 : Hid (drop j f = .node x y (k', n') l r) := e
          have HC : Hid (len l ≤ cap'.1) := cap'.2
          obtain ⟨cp, hcp⟩ : ∃ c, cap'.1 = c := ⟨_, rfl⟩
          rw [hcp] at c3 HC
          clear e hcp
          have hOb : b < wr.heap.size := hO
          obtain ⟨x0, x1, x2, _, _, _⟩ := bx.facts
          obtain ⟨z0, z1, z2, _, _, _⟩ := bz.facts
          have l1 := bx.lt
          have l2 := bz.lt
          have l3 := hG.lt
          have ne1 : w.heap.size ≠ B := by omega
          have ne2 : w.heap.size + 1 + 1 ≠ B := by omega
          have ne3 : wr.heap.size ≠ B := by omega
          have ne4 : B ≠ w.heap.size := by omega
          have ne5 : B ≠ w.heap.size + 1 + 1 := by omega
          have ne6 : B ≠ wr.heap.size := by omega
          have hW1 : Below wr.heap.size wr ((wr.alloc (.cells #[.int .i64 k', .int .i64 n', .slice p (len l) cp] 30)).drew) := ((Below.refl _ _).alloc (Nat.le_refl _) _).drew
          have HCP : Hid (Calls Tryz.prog 62 #[.agg #[.int .i64 k', .int .i64 n', .slice p (len l) cp]] ((wr.alloc (.cells #[.int .i64 k', .int .i64 n', .slice p (len l) cp] 30)).drew) fun e w' => (∃ v, e = .returned v ∧ TmC ((wr.alloc (.cells #[.int .i64 k', .int .i64 n', .slice p (len l) cp] 30)).drew).heap.size w' v (k', n', l)) ∧ Below ((wr.alloc (.cells #[.int .i64 k', .int .i64 n', .slice p (len l) cp] 30)).drew).heap.size ((wr.alloc (.cells #[.int .i64 k', .int .i64 n', .slice p (len l) cp] 30)).drew) w') := H.out l k' n' p cp _ (by omega) (by omega) (hsl.below hW1)
          clear hsl hW1
          go_wp2_with fail
          go_region_held3 (fun w' => w'.cell? ⟨wr.heap.size, 0, none⟩ = some (.int .i64 k') ∧ w'.cell? ⟨wr.heap.size, 1, none⟩ = some (.int .i64 n') ∧ w'.cell? ⟨wr.heap.size, 2, none⟩ = some (.slice p (len l) cp) ∧
              w'.cell? ⟨w.heap.size + 1 + 1, 2, none⟩ = some (.slice (some ⟨B, 0, none⟩) (len f) (len f))) (go_keep)
            (first | (go_at_call 62; refine HCP.out.mono ?_; rintro e w1 ⟨⟨v, rfl, p1, ⟨cap1, hcap1⟩, rfl, hsl1⟩, hb1'⟩; have hb1 := undrew hb1'; clear hb1'; have bx1 := (bx.alloc _).below hb1; have bz1 := (bz.alloc _).below hb1; have bn1 := (Box.new wr _ _ _).below hb1; have hG1 := rowT_behind hG hb1; obtain ⟨v0, v1, v2, _, _, _⟩ := bz1.facts; obtain ⟨u0, u1, u2, _, _, _⟩ := bn1.facts; obtain ⟨⟨g0, r0⟩, ⟨g1, r1⟩, ⟨g2, r2⟩, s0, s1, s2⟩ := rowT3 hG1 hlt))
          obtain ⟨w2, hw2, hG2, q0, q1, q2, hold, hblk, hbel⟩ := store3 hG1 hlt (.int .i64 k') (.int .i64 n') (.slice p1 (len l) cap1)
          rw [hw2]
          clear hw2 v0 v1 v2 u0 u1 u2 r0 r1 r2 s0 s1 s2 x0 x1 x2 z0 z1 z2 c1 c2 c3
          have hb12 : Below wr.heap.size wr w1 := ((Below.refl _ _).alloc (Nat.le_refl _) _).trans (hb1.mono (by simp))
          have F1 : Hid (Below w.heap.size w w2) := (hb.trans (hb12.mono hb.size)).trans (hbel _ (by omega))
          have F2 : Hid (Box w2 w.heap.size (.int .i64 k) (.int .i64 n) (.slice (some ⟨b, o, none⟩) (len f) cap)) := bx1.of_block (hblk _ ne1)
          have F3 : Hid (∃ a0 a1 a2, Box w2 (w.heap.size + 1) a0 a1 a2) := ⟨a0, a1, a2, (by_.below hb12).of_block (hblk _ (by omega))⟩
          have F4 : Hid (Box w2 (w.heap.size + 1 + 1) (.int .i64 k) (.int .i64 n) (.slice (some ⟨B, 0, none⟩) (len f) (len f))) := bz1.of_block (hblk _ ne2)
          have F5 : Hid (∃ G, w2.rowIs B 30 (len f * 3) G) := hG2
          have hlw : wr.heap.size < w1.heap.size := by have := hb1.size; simp at this; omega
          have F6 : Hid (RowPC B w2 (j + 1) 0 f) := by
            refine RowPC.snoc (p := p1) (cap := cap1) j _ 0 E1.out (RowPC.carry j _ 0 (fun i v _ hi hv => hold i v (by omega) (below_some hb12 _ _ _ hv)) (fun b' o' v hb' hv => ?_) hP) (by simpa using q0) (by simpa using q1) (by simpa using q2) hcap1 ?_
            · rw [World.cell?_of_block (w := w1) (hblk b' (by omega))]
              exact below_some hb12 _ _ _ hv
            · exact (hsl1.mono (O' := fresh (B + 1)) (fun b' (hb' : (wr.alloc _).heap.size ≤ b') => by rw [World.size_alloc] at hb'; show B + 1 ≤ b'; omega)).carry fun b' o' v (hb' : B + 1 ≤ b') hv => by rw [World.cell?_of_block (w := w1) (hblk b' (by omega))]; exact hv
          clear hG1 hG2 q0 q1 q2 hold hblk hbel hsl1 hb12 bx1 bz1 bn1 hb1 hcap1
          go_wp2_with fail
          go_roundw
          case rel => exact ⟨j + 1, hlt, by go_num, F1.out, F2.out, F3.out, F4.out, F5.out, F6.out⟩
          case measure => simp [intOf]; omega
        · obtain rfl : j = len f := by omega
          obtain ⟨y0, y1, y2, g0, g1, g2⟩ := by_.facts
          obtain ⟨z0, z1, z2, _, _, _⟩ := bz.facts
          have l3 := hG.lt
          go_wp2_with fail
          obtain ⟨d0, d1, d2, _, _, _⟩ := (by_.set (.int .i64 k) (.int .i64 n) (.slice (some ⟨B, 0, none⟩) (len f) (len f))).facts
          refine bodyPost_ret (v := .agg #[.int .i64 k, .int .i64 n, .slice (some ⟨B, 0, none⟩) (len f) (len f)]) (by simp [results, Tryz.results62, go_sem, d0, d1, d2]) rfl ⟨⟨_, rfl, some ⟨B, 0, none⟩, ⟨len f, Nat.le_refl _⟩, rfl, ?_⟩, ?_⟩
          · have hall : SlO (fresh (w.heap.size + 2)) wr (some ⟨B, 0, none⟩) f := ⟨B, 0, fun _ => rfl, RowPC.all (by omega) _ _ hP⟩
            exact (((hall.setFresh (by show w.heap.size + 1 < _; omega) _).setFresh (by show w.heap.size + 1 < _; omega) _).setFresh (by show w.heap.size + 1 < _; omega) _).mono fun b (h : w.heap.size + 2 ≤ b) => show w.heap.size ≤ b by omega
          · exact ((hb.setCell (by simp) _).setCell (by simp) _).setCell (by simp) _
    · have hl0 : len f = 0 := by have : (len f : Int) = 0 := by simpa using tl
                                 omega
      have hn := size_nil_of_len f hl0
      subst hn
      go_enter Tryz.func62, Tryz.ntmps62
      go_wp2_with fail
      refine bodyPost_ret (v := .agg #[.int .i64 k, .int .i64 n, .slice none 0 0]) (by simp [results, Tryz.results62, go_sem]) rfl ⟨⟨_, rfl, none, ⟨0, Nat.le_refl _⟩, rfl, SlO.nil _ _ _⟩, ?_⟩
      exact (((Below.refl _ _).alloc (Nat.le_refl _) _).alloc (by simp) _).alloc (by simp; omega) _
end Go.Proofs.YthfjmcomhccbaaaGreatDoor

namespace Go.Proofs.YthfjmcomhccbaaaGreatDoor
open Go.RowKit Tmx Evx
set_option maxRecDepth 60000

/-- A declaration as data. -/
structure Dcl where
  nm : List UInt8
  T : Int × Int × F
  B : Int × Int × F
/-- Its seven cells. -/
def sevenD (d : Dcl) (p1 p2 : Option Addr) (c1 c2 : Nat) : List Value :=
  [.string ⟨d.nm.toArray⟩, .int .i64 d.T.1, .int .i64 d.T.2.1, .slice p1 (len d.T.2.2) c1, .int .i64 d.B.1, .int .i64 d.B.2.1, .slice p2 (len d.B.2.2) c2]
/-- A declaration handed in, or answered. -/
def DcV (O : Nat → Prop) (w : World) (v : Value) (d : Dcl) : Prop :=
  ∃ p1 p2 c1 c2, v = .agg (sevenD d p1 p2 c1 c2).toArray ∧ len d.T.2.2 ≤ c1 ∧ len d.B.2.2 ≤ c2 ∧ SlO O w p1 d.T.2.2 ∧ SlO O w p2 d.B.2.2
/-- It is not too great. -/
def small (d : Dcl) : Prop := size d.T.2.2 ≤ 1000000 ∧ size d.B.2.2 ≤ 1000000

theorem lay7 (w : World) (cs ds : Array Value) : ∃ W, (w.alloc (.cells cs 70)).alloc (.cells ds 70) = W ∧ Below w.heap.size w W ∧ Blk W w.heap.size cs 70 ∧ Blk W (w.heap.size + 1) ds 70 ∧ W.heap.size = w.heap.size + 2 := by
  refine ⟨_, rfl, ((Below.refl _ _).alloc (Nat.le_refl _) _).alloc (by simp) _, (Blk.new w cs _).alloc _, ?_, by simp⟩
  have := Blk.new (w.alloc (.cells cs 70)) ds 70
  rw [World.size_alloc] at this
  exact this
theorem Blk.seven {w : World} {b : Nat} {s x y z x' y' z' : Value} {T : TypeId} (h : Blk w b #[s, x, y, z, x', y', z'] T) :
    (w.cell? ⟨b, 0, none⟩ = some s ∧ w.cell? ⟨b, 1, none⟩ = some x ∧ w.cell? ⟨b, 2, none⟩ = some y ∧ w.cell? ⟨b, 3, none⟩ = some z ∧ w.cell? ⟨b, 4, none⟩ = some x' ∧ w.cell? ⟨b, 5, none⟩ = some y' ∧ w.cell? ⟨b, 6, none⟩ = some z') ∧
    (w.frozen? ⟨b, 0, none⟩ = false ∧ w.frozen? ⟨b, 1, none⟩ = false ∧ w.frozen? ⟨b, 2, none⟩ = false ∧ w.frozen? ⟨b, 3, none⟩ = false ∧ w.frozen? ⟨b, 4, none⟩ = false ∧ w.frozen? ⟨b, 5, none⟩ = false ∧ w.frozen? ⟨b, 6, none⟩ = false) :=
  ⟨⟨by rw [h.cell]; rfl, by rw [h.cell]; rfl, by rw [h.cell]; rfl, by rw [h.cell]; rfl, by rw [h.cell]; rfl, by rw [h.cell]; rfl, by rw [h.cell]; rfl⟩, h.free 0, h.free 1, h.free 2, h.free 3, h.free 4, h.free 5, h.free 6⟩

/-- Seven cells written. -/
def put7 (w : World) (b : Nat) (s x y z x' y' z' : Value) : World := ((((((w.setCell ⟨b, 0, none⟩ s).setCell ⟨b, 1, none⟩ x).setCell ⟨b, 2, none⟩ y).setCell ⟨b, 3, none⟩ z).setCell ⟨b, 4, none⟩ x').setCell ⟨b, 5, none⟩ y').setCell ⟨b, 6, none⟩ z'
theorem put7_blk {w : World} {b : Nat} {s x y z x' y' z' : Value} {T : TypeId} (h : Blk w b #[s, x, y, z, x', y', z'] T) (s1 x1 y1 z1 x2 y2 z2 : Value) : Blk (put7 w b s1 x1 y1 z1 x2 y2 z2) b #[s1, x1, y1, z1, x2, y2, z2] T := by
  unfold put7 Blk at *
  simp [World.setCell, Array.getElem?_modify, h]
theorem put7_ne {w : World} {b k : Nat} (s x y z x' y' z' : Value) (h : k ≠ b) : (put7 w b s x y z x' y' z').heap[k]? = w.heap[k]? := by
  unfold put7
  rw [Below.heap_setCell _ _ _ _ h, Below.heap_setCell _ _ _ _ h, Below.heap_setCell _ _ _ _ h, Below.heap_setCell _ _ _ _ h, Below.heap_setCell _ _ _ _ h, Below.heap_setCell _ _ _ _ h, Below.heap_setCell _ _ _ _ h]
theorem put7_below {w0 w : World} {lo b : Nat} (h : Below lo w0 w) (hb : lo ≤ b) (s x y z x' y' z' : Value) : Below lo w0 (put7 w b s x y z x' y' z') :=
  ((((((h.setCell hb _).setCell hb _).setCell hb _).setCell hb _).setCell hb _).setCell hb _).setCell hb _
theorem SlO.other {O : Nat → Prop} {w w' : World} {q : Option Addr} {f : F} (h : SlO O w q f) (hk : ∀ b, O b → w'.heap[b]? = w.heap[b]?) : SlO O w' q f := h.along (fun _ hb => hb) hk

set_option maxHeartbeats 4000000 in
theorem own_any (d : Dcl) (v : Value) (w : World) (hv : DcV (old w) w v d) (hs : small d) :
    Calls Tryz.prog 45 #[v] w fun e w' => (∃ v', e = .returned v' ∧ DcV (fresh w.heap.size) w' v' d) ∧ Below w.heap.size w w' := by
  obtain ⟨p1, p2, c1, c2, rfl, h1, h2, h3, h4⟩ := hv
  have HS : Hid (len d.T.2.2 ≤ c1 ∧ len d.B.2.2 ≤ c2 ∧ SlO (old w) w p1 d.T.2.2 ∧ SlO (old w) w p2 d.B.2.2 ∧ small d) := ⟨h1, h2, h3, h4, hs⟩
  obtain ⟨nm, ⟨k1, n1, f1⟩, ⟨k2, n2, f2⟩⟩ := d
  unfold sevenD
  dsimp only at *
  clear h1 h2 h3 h4 hs
  obtain ⟨W, hW, hb, B1, B2, hz⟩ := lay7 w #[.string ⟨nm.toArray⟩, .int .i64 k1, .int .i64 n1, .slice p1 (len f1) c1, .int .i64 k2, .int .i64 n2, .slice p2 (len f2) c2] #[.string ⟨#[]⟩, .int .i64 0, .int .i64 0, .slice none 0 0, .int .i64 0, .int .i64 0, .slice none 0 0]
  have hbW : Below w.heap.size w W.drew := hb.drew
  have HC1 : Hid (Calls Tryz.prog 62 #[.agg #[.int .i64 k1, .int .i64 n1, .slice p1 (len f1) c1]] W.drew fun e w' => (∃ v, e = .returned v ∧ TmC W.drew.heap.size w' v (k1, n1, f1)) ∧ Below W.drew.heap.size W.drew w') := copy_any _ f1 k1 n1 p1 c1 _ (Nat.lt_succ_self _) (by have := HS.out.2.2.2.2.1; dsimp only at this; omega) (HS.out.2.2.1.below hbW)
  have HCC : Hid (∀ w1, Below W.drew.heap.size W.drew w1 → Calls Tryz.prog 62 #[.agg #[.int .i64 k2, .int .i64 n2, .slice p2 (len f2) c2]] w1 fun e w' => (∃ v, e = .returned v ∧ TmC w1.heap.size w' v (k2, n2, f2)) ∧ Below w1.heap.size w1 w') := fun w1 hb1 => copy_any _ f2 k2 n2 p2 c2 _ (Nat.lt_succ_self _) (by have := HS.out.2.2.2.2.2; dsimp only at this; omega) ((HS.out.2.2.2.1.below hbW).below hb1)
  have HB : Hid (Below w.heap.size w W.drew ∧ Blk W w.heap.size #[.string ⟨nm.toArray⟩, .int .i64 k1, .int .i64 n1, .slice p1 (len f1) c1, .int .i64 k2, .int .i64 n2, .slice p2 (len f2) c2] 70 ∧ Blk W (w.heap.size + 1) #[.string ⟨#[]⟩, .int .i64 0, .int .i64 0, .slice none 0 0, .int .i64 0, .int .i64 0, .slice none 0 0] 70 ∧ W.heap.size = w.heap.size + 2) := ⟨hbW, B1, B2, hz⟩
  obtain ⟨⟨x0, x1, x2, x3, x4, x5, x6⟩, _⟩ := B1.seven
  clear B1 B2 hb hbW hz
  go_enter Tryz.func45, Tryz.ntmps45
  go_wp2_with fail
  have ne : w.heap.size ≠ w.heap.size + 1 := by omega
  go_region_held3 (fun w' => w'.cell? ⟨w.heap.size, 0, none⟩ = some (.string ⟨nm.toArray⟩) ∧ w'.cell? ⟨w.heap.size, 1, none⟩ = some (.int .i64 k1) ∧ w'.cell? ⟨w.heap.size, 2, none⟩ = some (.int .i64 n1) ∧ w'.cell? ⟨w.heap.size, 3, none⟩ = some (.slice p1 (len f1) c1) ∧ w'.cell? ⟨w.heap.size, 4, none⟩ = some (.int .i64 k2) ∧ w'.cell? ⟨w.heap.size, 5, none⟩ = some (.int .i64 n2) ∧ w'.cell? ⟨w.heap.size, 6, none⟩ = some (.slice p2 (len f2) c2)) (go_keep)
    (first
      | (go_at_call 62; ((with_reducible refine HC1.out.mono ?_); rintro e w1 ⟨⟨v, rfl, p3, ⟨c3, hc3⟩, rfl, hsl3⟩, hb1⟩); have HB1 : Hid (Below W.drew.heap.size W.drew w1 ∧ len f1 ≤ c3 ∧ SlO (fresh W.heap.size) w1 p3 f1) := ⟨hb1, hc3, hsl3⟩; obtain ⟨⟨y0, y1, y2, y3, y4, y5, y6⟩, _⟩ := (Blk.below (w := W.drew) HB.out.2.1 hb1).seven; have HC2 : Calls Tryz.prog 62 #[.agg #[.int .i64 k2, .int .i64 n2, .slice p2 (len f2) c2]] w1 fun e w' => (∃ v, e = .returned v ∧ TmC w1.heap.size w' v (k2, n2, f2)) ∧ Below w1.heap.size w1 w' := HCC.out w1 hb1)
      | (go_at_call 62; ((with_reducible refine HC2.mono ?_); rintro e w2 ⟨⟨v, rfl, p4, ⟨c4, hc4⟩, rfl, hsl4⟩, hb2⟩); have HB2 : Hid (Below w1.heap.size w1 w2 ∧ len f2 ≤ c4 ∧ SlO (fresh w1.heap.size) w2 p4 f2) := ⟨hb2, hc4, hsl4⟩; obtain ⟨⟨y0, y1, y2, y3, y4, y5, y6⟩, _⟩ := ((Blk.below (w := W.drew) HB.out.2.1 HB1.out.1).below hb2).seven; obtain ⟨⟨z0, z1, z2, z3, z4, z5, z6⟩, v0, v1, v2, v3, v4, v5, v6⟩ := ((Blk.below (w := W.drew) HB.out.2.2.1 HB1.out.1).below hb2).seven))
  rw [show ((((((w2.setCell ⟨w.heap.size + 1, 0, none⟩ (.string ⟨nm.toArray⟩)).setCell ⟨w.heap.size + 1, 1, none⟩ (.int .i64 k1)).setCell ⟨w.heap.size + 1, 2, none⟩ (.int .i64 n1)).setCell ⟨w.heap.size + 1, 3, none⟩ (.slice p3 (len f1) c3)).setCell ⟨w.heap.size + 1, 4, none⟩ (.int .i64 k2)).setCell ⟨w.heap.size + 1, 5, none⟩ (.int .i64 n2)).setCell ⟨w.heap.size + 1, 6, none⟩ (.slice p4 (len f2) c4) = put7 w2 (w.heap.size + 1) (.string ⟨nm.toArray⟩) (.int .i64 k1) (.int .i64 n1) (.slice p3 (len f1) c3) (.int .i64 k2) (.int .i64 n2) (.slice p4 (len f2) c4) from rfl]
  have hzW : W.drew.heap.size = w.heap.size + 2 := HB.out.2.2.2
  have hz1 : W.drew.heap.size ≤ w1.heap.size := HB1.out.1.size
  have hB2 : Below w.heap.size w w2 := (HB.out.1.trans (HB1.out.1.mono (by omega))).trans (HB2.out.1.mono (by omega))
  have hF : Hid (DcV (fresh w.heap.size) (put7 w2 (w.heap.size + 1) (.string ⟨nm.toArray⟩) (.int .i64 k1) (.int .i64 n1) (.slice p3 (len f1) c3) (.int .i64 k2) (.int .i64 n2) (.slice p4 (len f2) c4)) (.agg #[.string ⟨nm.toArray⟩, .int .i64 k1, .int .i64 n1, .slice p3 (len f1) c3, .int .i64 k2, .int .i64 n2, .slice p4 (len f2) c4]) ⟨nm, (k1, n1, f1), (k2, n2, f2)⟩ ∧
      Below w.heap.size w (put7 w2 (w.heap.size + 1) (.string ⟨nm.toArray⟩) (.int .i64 k1) (.int .i64 n1) (.slice p3 (len f1) c3) (.int .i64 k2) (.int .i64 n2) (.slice p4 (len f2) c4))) := by
    refine ⟨⟨p3, p4, c3, c4, rfl, HB1.out.2.1, HB2.out.2.1, ?_, ?_⟩, put7_below hB2 (by omega) _ _ _ _ _ _ _⟩
    · refine SlO.mono (O := fresh W.heap.size) (fun b (h : W.heap.size ≤ b) => show w.heap.size ≤ b by have : W.heap.size = w.heap.size + 2 := hzW; omega) ?_
      refine SlO.other (w := w2) ?_ fun b (h : W.heap.size ≤ b) => put7_ne _ _ _ _ _ _ _ (by have : W.heap.size = w.heap.size + 2 := hzW; omega)
      exact HB1.out.2.2.carry fun b o u _ hc => below_some HB2.out.1 _ _ _ hc
    · refine SlO.mono (O := fresh w1.heap.size) (fun b (h : w1.heap.size ≤ b) => show w.heap.size ≤ b by omega) ?_
      exact SlO.other (w := w2) HB2.out.2.2 fun b (h : w1.heap.size ≤ b) => put7_ne _ _ _ _ _ _ _ (by omega)
  obtain ⟨⟨u0, u1, u2, u3, u4, u5, u6⟩, _⟩ := (put7_blk ((Blk.below (w := W.drew) HB.out.2.2.1 HB1.out.1).below HB2.out.1) (.string ⟨nm.toArray⟩) (.int .i64 k1) (.int .i64 n1) (.slice p3 (len f1) c3) (.int .i64 k2) (.int .i64 n2) (.slice p4 (len f2) c4)).seven
  generalize put7 w2 (w.heap.size + 1) (.string ⟨nm.toArray⟩) (.int .i64 k1) (.int .i64 n1) (.slice p3 (len f1) c3) (.int .i64 k2) (.int .i64 n2) (.slice p4 (len f2) c4) = w3 at *
  clear y0 y1 y2 y3 y4 y5 y6 z0 z1 z2 z3 z4 z5 z6 v0 v1 v2 v3 v4 v5 v6 x0 x1 x2 x3 x4 x5 x6 hB2 hz1 hzW hb1 hb2 hsl3 hsl4 hc3 hc4 HC2
  go_wp2_with fail
  refine bodyPost_ret (v := .agg #[.string ⟨nm.toArray⟩, .int .i64 k1, .int .i64 n1, .slice p3 (len f1) c3, .int .i64 k2, .int .i64 n2, .slice p4 (len f2) c4]) (by simp [results, Tryz.results45, go_sem, u0, u1, u2, u3, u4, u5, u6]) rfl ⟨⟨_, rfl, hF.out.1⟩, hF.out.2⟩
end Go.Proofs.YthfjmcomhccbaaaGreatDoor

namespace Go.Proofs.YthfjmcomhccbaaaGreatDoor
open Go.RowKit Tmx
set_option maxRecDepth 60000

set_option maxHeartbeats 400000 in
theorem size_any (m : Nat) : ∀ (f : F) (k n : Int) (q : Option Addr) (cap : Nat) (w : World), size f < m → size f < 4611686018427387904 → Sl w q f →
    Calls Tryz.prog 129 #[.agg #[.int .i64 k, .int .i64 n, .slice q (len f) cap]] w fun e w' => e = .returned (.int .i64 (size f + 1)) ∧ Below w.heap.size w w' := by
  induction m with
  | zero => intro f k n q cap w h; omega
  | succ m ih =>
    intro f k n q cap w hm hB hs
    have H := (show Hid _ from ih)
    clear ih
    have hls := len_le_size f
    go_enter Tryz.func129, Tryz.ntmps129
    go_wp2_with fail
    go_loopw [3, 9] (fun s i wr => ∃ j : Nat, j ≤ len f ∧ i = .int .i64 j ∧ s = .int .i64 ((size f : Int) + 1 - size (drop j f)) ∧ Below w.heap.size w wr) (fun _ i _ => len f - (intOf i).toNat)
    case atStart => exact ⟨0, Nat.zero_le _, rfl, by simp [drop]; omega, (Below.refl _ _).alloc (Nat.le_refl _) _⟩
    case round =>
      obtain ⟨j, hj, rfl, rfl, hb⟩ := hrel
      have hz := size_drop j f
      by_cases hlt : j < len f
      · obtain ⟨b, o, k', n', p, cap', x, y, l, r, rfl, e, hbl, c1, c2, c3, hsl⟩ := hs.at hb hlt
        have hd := drop_succ j f _ _ _ _ _ e
        have he : size (drop j f) = size l + size r + 1 := by rw [e, size]
        have E : Hid (size (drop j f) = size l + size r + 1 ∧ drop (j + 1) f = r) := ⟨he, hd⟩
        have hz' : size l + size r + 1 ≤ size f := by rw [← he]; exact hz
        have hz2 : size l + size r + 1 ≤ size (drop j f) ∧ size (drop j f) ≤ size l + size r + 1 := by rw [he]; omega
        clear e hd he
        go_wp2_with fail
        refine (H.out l k' n' p cap' _ (by omega) (by omega) (hsl.below ((Below.refl _ _).alloc (Nat.le_refl _) _))).mono ?_
        rintro e w1 ⟨rfl, hb1⟩
        go_wp2_with fail
        go_roundw
        case rel => exact ⟨j + 1, hlt, by go_num, by rw [E.out.1, E.out.2]; go_num, hb.trans (((Below.refl _ _).alloc hb.size _).trans (hb1.mono (by have := hb.size; simp; omega)))⟩
        case measure => simp [intOf]; omega
      · go_wp2
        go_ret
        have : j = len f := by omega
        subst this
        rw [drop_len]
        exact ⟨by simp [size], hb⟩
end Go.Proofs.YthfjmcomhccbaaaGreatDoor
