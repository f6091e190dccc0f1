/-
  Contracts: NewMaker.
-/
/-
  Contracts of package book: the name that words declare, and the words of its type and of its body.
-/
/-
  Contracts of package book: words joined, the name cloned, and one byte's place: off the library's shelf.
-/
import Derived.Test.YthfjmcomhccbaaaGreatDoorE18m
import Derived.Test.YthfjmcomhccbaaaGreatDoorVX8m
import Derived.Shelf.Strings.OnBuilder
import Derived.Shelf.Strings.Search3
import Derived.Shelf.Strconv.Clone
import Derived.Test.YthfjmcomhccbaaaGreatDoorMem2m
namespace Go.Proofs.YthfjmcomhccbaaaGreatDoor
open Go.RowKit Tmx Evx
set_option maxRecDepth 60000

set_option maxHeartbeats 800000 in
/-- What later lays, of what is no variable. -/
theorem laterRaw_any (pm tb to : Nat) (k : Int) (x0 : Option Addr) (w : World) (hc : w.cell? ⟨tb, to, none⟩ = some (.int .i64 k)) (hk : k ≠ 1) :
    Calls Tryz.prog 23 #[.pointer (some ⟨pm, 0, none⟩), .pointer (some ⟨tb, to, none⟩), .pointer x0] w fun e w' => e = .returned (.pointer (some ⟨w.heap.size + 3, 0, none⟩)) ∧ Below w.heap.size w w' ∧ w'.heap.size = w.heap.size + 4 ∧
      Blk w' w.heap.size #[ptr pm] 44 ∧ Blk w' (w.heap.size + 1) #[.pointer (some ⟨tb, to, none⟩)] 47 ∧ Blk w' (w.heap.size + 2) #[.pointer x0] 71 ∧
      Blk w' (w.heap.size + 3) #[.func (.func 32) #[] #[ptr w.heap.size, ptr (w.heap.size + 1), ptr (w.heap.size + 2)], .pointer none] 85 := by
  obtain ⟨W, hW, hb, B1, B2, B3, hz⟩ := lay3 w #[.pointer (some ⟨pm, 0, none⟩)] #[.pointer (some ⟨tb, to, none⟩)] #[.pointer x0] 44 47 71
  have hlt := World.block_lt_of_cell? w ⟨tb, to, none⟩ hc
  have hcW : W.cell? ⟨tb, to, none⟩ = some (.int .i64 k) := by rw [hb.cell (p := ⟨tb, to, none⟩) hlt]; exact hc
  obtain ⟨a1, a2⟩ := B1.one
  obtain ⟨b1, b2⟩ := B2.one
  obtain ⟨c1, c2⟩ := B3.one
  have tk : (k == 1) = false := by simpa using hk
  obtain ⟨X, hX, hbX, B4, hzX⟩ := lay1 W #[.func (.func 32) #[] #[.pointer (some ⟨w.heap.size, 0, none⟩), .pointer (some ⟨w.heap.size + 1, 0, none⟩), .pointer (some ⟨w.heap.size + 1 + 1, 0, none⟩)], .pointer none] 85
  have HF : Hid (Below w.heap.size w X ∧ X.heap.size = w.heap.size + 4 ∧ Blk X w.heap.size #[ptr pm] 44 ∧ Blk X (w.heap.size + 1) #[.pointer (some ⟨tb, to, none⟩)] 47 ∧ Blk X (w.heap.size + 2) #[.pointer x0] 71 ∧
      Blk X (w.heap.size + 3) #[.func (.func 32) #[] #[ptr w.heap.size, ptr (w.heap.size + 1), ptr (w.heap.size + 2)], .pointer none] 85) :=
    ⟨hb.trans (hbX.mono (by omega)), by omega, B1.below hbX, B2.below hbX, B3.below hbX, hz ▸ B4⟩
  clear hc hk hb hbX hlt B1 B2 B3 B4
  go_enter Tryz.func23, Tryz.ntmps23
  go_wp2_with fail
  refine bodyPost_ret (v := .pointer (some ⟨w.heap.size + 3, 0, none⟩)) (by simp [results, Tryz.results23, go_sem]) rfl ⟨rfl, HF.out⟩

theorem uLs : Tryz.prog.underlying 65 = some (.slice 43) := by kernel_rfl
theorem iLs : (Tryz.prog.info? 43).map (fun i => (i.zero, i.size, i.bytes)) = some (some (.pointer none), 1, 8) := by kernel_rfl
/-- The cells of c pointers. -/
def noLs (c : Nat) : Array Value := madeCells #[.pointer none] (c * 1)
theorem makeLs (c : Nat) (h : c ≤ 1099511627776) (W : World) :
    (Instr.makeSlice 65 (.int .i64 c) (.int .i64 c)).run Tryz.prog W = .ok (.slice (some ⟨W.heap.size, 0, none⟩) c c) (W.alloc (.cells (noLs c) 43)) := by
  obtain ⟨i, hi, he⟩ := Option.map_eq_some_iff.1 iLs
  simp only [Prod.mk.injEq] at he
  obtain ⟨hz, hs, hb⟩ := he
  have := run_make (P := Tryz.prog) W 65 43 i _ uLs hi hz .i64 .i64 (c : Int) (c : Int) (by omega) (by omega) (by rw [hb]; omega) (by omega)
  rw [hs, Int.toNat_natCast] at this
  exact this
theorem noLs_row (c : Nat) (w : World) : ∃ G, (w.alloc (.cells (noLs c) 43)).rowIs w.heap.size 43 c G := by
  have h := World.rowIs_alloc w (noLs c) 43 (fun i => (noLs c)[i]?.getD .nilFunc) (fun i hi => by simp [hi])
  rw [show (noLs c).size = c from by unfold noLs; rw [size_madeCells, Nat.mul_one]] at h
  exact ⟨_, h⟩

/-- The declarations' bodies lie there, seven cells apart. -/
def DefsAt (O : Nat → Prop) (w : World) (p : Option Addr) (D : List (Int × Int × F)) : Prop :=
  ∀ (i : Nat) (d : Int × Int × F), D[i]? = some d → ∃ b o, p = some ⟨b, o, none⟩ ∧ TmAt O w b (o + i * 7 + 4) d.1 d.2.1 d.2.2 ∧ d.1 ≠ 1

set_option maxHeartbeats 4000000 in
theorem newMaker_any (p : Option Addr) (cap : Nat) (bound : Int) (D : List (Int × Int × F)) (g : Gh) (w : World) (hi : Inv g w) (hd : DefsAt g.o w p D) (hl : D.length ≤ 1000) :
    Calls Tryz.prog 14 #[.slice p D.length cap, .int .i64 bound] w fun e w' => ∃ g' b, e = .returned (ptr b) ∧ Ste g w g' w' ∧ MkIs g' w' b ⟨bound, bound, D⟩ := by
  obtain ⟨n, hn⟩ : ∃ n, D.length = n := ⟨_, rfl⟩
  obtain ⟨X, hX, hb, B1, B2, hz⟩ := lay2 w (noLs n) #[.int .i64 bound, .slice (some ⟨w.heap.size, 0, none⟩) n n] 43 67
  have hG : ∃ G, X.rowIs w.heap.size 43 n G := by
    obtain ⟨G, h1⟩ := noLs_row n w
    exact ⟨G, h1.of_block (by rw [B1]; exact (heap_alloc_new _ _).symm)⟩
  have HS : Hid (Inv g w ∧ DefsAt g.o w p D ∧ Below w.heap.size w X) := ⟨hi, hd, hb⟩
  have hmk := makeLs n (by omega)
  have HB : Hid (Blk X (w.heap.size + 1) #[.int .i64 bound, .slice (some ⟨w.heap.size, 0, none⟩) n n] 67) := B2
  rw [hn]
  have HL : Hid (D.length = n) := hn
  have hl2 : n ≤ 1000 := by omega
  have HZ : Hid (X.heap.size = w.heap.size + 2) := hz
  clear hi hd hb B1 B2 hn hz
  go_enter Tryz.func14, Tryz.ntmps14
  go_wp2_with fail
  go_loopg [15] n (fun gg i wr => ∃ (j : Nat) (G : Nat → Value), gg = n - j ∧ j ≤ n ∧ i = .int .i64 (j : Int) ∧ Below w.heap.size w wr ∧ Hid (wr.heap.size = w.heap.size + 2 + 4 * j) ∧ Blk wr (w.heap.size + 1) #[.int .i64 bound, .slice (some ⟨w.heap.size, 0, none⟩) n n] 67 ∧
    wr.rowIs w.heap.size 43 n G ∧ Hid (∀ i, i < j → G i = .pointer (some ⟨w.heap.size + 2 + 4 * i + 3, 0, none⟩) ∧ ∃ bt ot, p = some ⟨bt, ot, none⟩ ∧ Blk wr (w.heap.size + 2 + 4 * i) #[ptr (w.heap.size + 1)] 44 ∧ Blk wr (w.heap.size + 2 + 4 * i + 1) #[.pointer (some ⟨bt, ot + i * 7 + 4, none⟩)] 47 ∧ Blk wr (w.heap.size + 2 + 4 * i + 2) #[.pointer none] 71 ∧
      Blk wr (w.heap.size + 2 + 4 * i + 3) #[.func (.func 32) #[] #[ptr (w.heap.size + 2 + 4 * i), ptr (w.heap.size + 2 + 4 * i + 1), ptr (w.heap.size + 2 + 4 * i + 2)], .pointer none] 85))
  case atStart =>
    obtain ⟨G, h1⟩ := hG
    exact ⟨0, G, rfl, Nat.zero_le _, rfl, HS.out.2.2, HZ.out, HB.out, h1, fun i h => absurd h (by omega)⟩
  case round =>
    clear hG hX hmk HZ HB
    obtain ⟨j, G, hgg, hj, rfl, hbw, hsz, hV, hGw, hA⟩ := hrel
    obtain ⟨v0, v1, _, _⟩ := hV.two
    by_cases hlt : j < n
    · obtain ⟨d, hdj⟩ : ∃ d, D[j]? = some d := ⟨_, List.getElem?_eq_getElem (by rw [HL.out]; exact hlt)⟩
      obtain ⟨b, o, rfl, ⟨hob, q, cp, t0, _⟩, hk1⟩ := HS.out.2.1 j d hdj
      have hblt := (HS.out.1.o b hob).2
      have t0w : wr.cell? ⟨b, o + j * 7 + 4, none⟩ = some (.int .i64 d.1) := by rw [hbw.cell (p := ⟨b, o + j * 7 + 4, none⟩) hblt]; exact t0
      have HC := laterRaw_any (w.heap.size + 1) b (o + j * 7 + 4) d.1 none wr.drew t0w hk1
      have c0 := hGw.cell hlt
      have f0 := hGw.frozen j
      have i1 : (0 : Int) ≤ (j : Int) := by omega
      have i2 : (j : Int) < (n : Int) := by omega
      have HV : Hid (Blk wr (w.heap.size + 1) #[.int .i64 bound, .slice (some ⟨w.heap.size, 0, none⟩) n n] 67 ∧ Below w.heap.size w wr ∧ wr.rowIs w.heap.size 43 n G) := ⟨hV, hbw, hGw⟩
      clear hdj hob t0 hk1 hV hbw hGw
      go_wp2_with fail
      have nm : w.heap.size ≠ w.heap.size + 1 := by omega
      go_region_held3 (fun w' => w'.cell? ⟨w.heap.size + 1, 1, none⟩ = some (.slice (some ⟨w.heap.size, 0, none⟩) n n)) (go_keep)
        (first
          | (go_at_call 23; refine HC.mono ?_; rintro e w3 ⟨rfl, hb3, hz3, b1, b2, b3, b4⟩; have hV3 := Blk.below (w := wr.drew) HV.out.1 hb3; have v13 := hV3.two.2.1; have hG3 : w3.rowIs w.heap.size 43 n G := World.rowIs.of_block (w := wr) HV.out.2.2 (hb3.block _ HV.out.2.2.lt); have c03 := hG3.cell hlt; have f03 := hG3.frozen j; have HT : Hid (Below wr.heap.size wr.drew w3 ∧ w3.heap.size = wr.heap.size + 4 ∧ Blk w3 (w.heap.size + 1) #[.int .i64 bound, .slice (some ⟨w.heap.size, 0, none⟩) n n] 67 ∧ Blk w3 wr.heap.size #[ptr (w.heap.size + 1)] 44 ∧ Blk w3 (wr.heap.size + 1) #[.pointer (some ⟨b, o + j * 7 + 4, none⟩)] 47 ∧ Blk w3 (wr.heap.size + 2) #[.pointer none] 71 ∧ Blk w3 (wr.heap.size + 3) #[.func (.func 32) #[] #[ptr wr.heap.size, ptr (wr.heap.size + 1), ptr (wr.heap.size + 2)], .pointer none] 85) := ⟨hb3, hz3, hV3, b1, b2, b3, b4⟩; clear b1 b2 b3 b4))
      have HG3 : Hid (w3.rowIs w.heap.size 43 n G) := hG3
      clear hG3 c03 f03 hV3 hb3 hz3
      go_wp2_with fail
      go_roundg (n - (j + 1))
      case measure => rw [hgg]; omega
      case rel =>
        obtain ⟨hb3, hz3, hV3, b1, b2, b3, b4⟩ := HT.out
        have hsz' := hsz.out
        have hbw3 : Below w.heap.size w w3 := (HV.out.2.1.drew).trans (hb3.mono HV.out.2.1.size)
        have hne : ∀ k, w.heap.size < k → k ≠ w.heap.size := fun k h => by omega
        refine ⟨j + 1, _, rfl, hlt, by go_num, hbw3.setCell (Nat.le_refl _) _, ?_, hV3.setOther (hne _ (by omega)) _, HG3.out.set j _, fun i hi => ?_⟩
        · show (w3.setCell _ _).heap.size = _
          simp only [World.setCell, Array.size_modify]
          omega
        · by_cases hij : i < j
          · obtain ⟨h1, bt, ot, h2, h3, h4, h5, h6⟩ := hA.out i hij
            have hk : ∀ k cs T, Blk wr k cs T → w.heap.size < k → Blk (w3.setCell ⟨w.heap.size, j, none⟩ (.pointer (some ⟨wr.heap.size + 3, 0, none⟩))) k cs T := fun k cs T h hlt' => (Blk.below (w := wr.drew) h hb3).setOther (x := ⟨w.heap.size, j, none⟩) (hne k hlt') _
            exact ⟨by show (if i = j then _ else _) = _; rw [if_neg (by omega)]; exact h1, bt, ot, h2, hk _ _ _ h3 (by omega), hk _ _ _ h4 (by omega), hk _ _ _ h5 (by omega), hk _ _ _ h6 (by omega)⟩
          · have hij2 : i = j := by omega
            subst hij2
            rw [hsz'] at b1 b2 b3 b4
            have hk : ∀ k cs T, Blk w3 k cs T → w.heap.size < k → Blk (w3.setCell ⟨w.heap.size, i, none⟩ (.pointer (some ⟨wr.heap.size + 3, 0, none⟩))) k cs T := fun k cs T h hlt' => h.setOther (x := ⟨w.heap.size, i, none⟩) (hne k hlt') _
            exact ⟨by show (if i = i then _ else _) = _; rw [if_pos rfl, hsz'], b, o, rfl, hk _ _ _ b1 (by omega), hk _ _ _ b2 (by omega), hk _ _ _ b3 (by omega), hk _ _ _ b4 (by omega)⟩
    · obtain ⟨cs, hcs, hcn, hcc⟩ := hGw
      have hsz' := hsz.out
      obtain ⟨hi, hd, _⟩ := HS.out
      have hDn := HL.out
      have hF : ∃ g' b, (Ending.returned (.pointer (some ⟨w.heap.size + 1, 0, none⟩)) = Ending.returned (ptr b)) ∧ Ste g w g' wr ∧ MkIs g' wr b ⟨bound, bound, D⟩ := by
        obtain ⟨s, hs⟩ : ∃ s, s = w.heap.size + 2 := ⟨_, rfl⟩
        rw [← hs] at hsz' hA
        let g2 : Gh := { l := fun b => if s ≤ b ∧ b < s + 4 * n ∧ (b - s) % 4 = 3 then (defsOf ⟨bound, bound, D⟩)[(b - s) / 4]? else g.l b, v := g.v, o := fun b => g.o b ∨ (w.heap.size ≤ b ∧ b < s + 4 * n ∧ ¬ (s ≤ b ∧ (b - s) % 4 = 3)) }
        have hold : ∀ b, ¬ (s ≤ b ∧ b < s + 4 * n ∧ (b - s) % 4 = 3) → g2.l b = g.l b := fun b h => by show (if _ then _ else _) = _; rw [if_neg h]
        have hnew : ∀ i, i < n → g2.l (s + 4 * i + 3) = (defsOf ⟨bound, bound, D⟩)[i]? := fun i h => by
          show (if _ then _ else _) = _
          rw [if_pos ⟨by omega, by omega, by omega⟩, show (s + 4 * i + 3 - s) / 4 = i by omega]
        have hmo : Mor g w g2 wr := ⟨fun b t e => by rw [hold b (fun h => by have := hi.l_lt e; omega)]; exact e, fun _ _ e => e, fun _ e => .inl e, fun b e => hbw.block b (hi.o b e).2⟩
        have hon : ∀ b, w.heap.size ≤ b → b < s + 4 * n → ¬ (s ≤ b ∧ (b - s) % 4 = 3) → g2.o b := fun b h1 h2 h3 => .inr ⟨h1, h2, h3⟩
        have hmk : MkIs g2 wr (w.heap.size + 1) ⟨bound, bound, D⟩ := by
          refine ⟨some ⟨w.heap.size, 0, none⟩, n, ⟨hon _ (by omega) (by omega) (by omega), by show Blk wr _ #[.int .i64 bound, .slice (some ⟨w.heap.size, 0, none⟩) D.length n] _; rw [hDn]; exact hV⟩, fun _ => ⟨w.heap.size, cs, rfl, hcs, fun i t hit => ?_⟩, fun _ => ⟨w.heap.size, rfl, hon _ (Nat.le_refl _) (by omega) (by omega)⟩⟩
          have hin : i < n := by
            have := (List.getElem?_eq_some_iff.1 hit).1
            rw [show (defsOf ⟨bound, bound, D⟩).length = n from by unfold defsOf; rw [List.length_map]; exact hDn] at this
            exact this
          exact ⟨G i, hcc i hin, s + 4 * i + 3, (hA.out i (by omega)).1, by rw [hnew i hin]; exact hit⟩
        refine ⟨g2, w.heap.size + 1, rfl, ⟨⟨hmo.l, hmo.v, hmo.o, fun b h e => by rw [hold b (by omega)]; exact e, fun b h e => ?_⟩, .of_below hbw, ⟨fun b t e => ?_, fun b v e => (hi.v b v e).along hmo, fun b e => ?_⟩⟩, hmk⟩
        · rcases e with e | e
          · exact e
          · exact absurd e.1 (by omega)
        · by_cases hc : s ≤ b ∧ b < s + 4 * n ∧ (b - s) % 4 = 3
          · obtain ⟨i, hib, hin⟩ : ∃ i, b = s + 4 * i + 3 ∧ i < n := ⟨(b - s) / 4, by omega, by omega⟩
            subst hib
            rw [hnew i hin] at e
            unfold defsOf at e
            rw [List.getElem?_map] at e
            obtain ⟨d, hdi, rfl⟩ := Option.map_eq_some_iff.1 e
            obtain ⟨_, bt, ot, hp, b1, b2, b3, b4⟩ := hA.out i (by omega)
            obtain ⟨b', o', hp', ht, _⟩ := hd i d hdi
            rw [hp] at hp'
            simp only [Option.some.injEq, Addr.mk.injEq] at hp'
            obtain ⟨rfl, rfl, _⟩ := hp'
            exact .inr ⟨_, b4, ⟨_, _, _, rfl⟩, _, _, _, _, .inl rfl, rfl, w.heap.size + 1, bt, ot + i * 7 + 4, .pointer none, ⟨hon _ (by omega) (by omega) (by omega), b1⟩, ⟨hon _ (by omega) (by omega) (by omega), b2⟩, ⟨hon _ (by omega) (by omega) (by omega), b3⟩, hmk, ht.mor hmo, rfl⟩
          · rw [hold b hc] at e
            exact (hi.l b t e).along hmo (hbw.block b (hi.l_lt e))
        · rcases e with e | ⟨e1, e2, e3⟩
          · exact ⟨by rw [hold b (fun h => by have := (hi.o b e).2; omega)]; exact (hi.o b e).1, by have := (hi.o b e).2; omega⟩
          · exact ⟨by rw [hold b (fun h => e3 ⟨h.1, h.2.2⟩)]; exact hi.l_new e1, by omega⟩
      have HF := (show Hid _ from hF)
      clear hF hcs hcn hcc hsz' hi hd hDn hA hbw hV
      go_wp2_with fail
      refine bodyPost_ret (v := .pointer (some ⟨w.heap.size + 1, 0, none⟩)) (by simp [results, Tryz.results14, go_sem]) rfl HF.out
end Go.Proofs.YthfjmcomhccbaaaGreatDoor

namespace Go.Proofs.YthfjmcomhccbaaaGreatDoor
open Go.RowKit Tmx Evx
set_option maxRecDepth 60000

theorem cut_mid (b o n cap l h : Nat) (hl : l ≤ h) (hh : h ≤ n) (hc : n ≤ cap) (hlc : l < cap) : ∀ W : World, (Instr.sliceAt 102 (.slice (some ⟨b, o, none⟩) n cap) (some (.int .i64 (l : Int))) (some (.int .i64 (h : Int))) none).run Tryz.prog W = .ok (.slice (some ⟨b, o + l, none⟩) (h - l : Nat) (cap - l : Nat)) W := by
  have hel : Tryz.prog.underlying 102 = some (.slice (Tryz.prog.elem 102)) := by kernel_rfl
  have hsz : ∀ W : World, (sizeOf (Tryz.prog.elem 102)).run Tryz.prog W = .ok 1 W := fun W => by kernel_rfl
  intro W
  rw [run_sliceAt_slice _ _ _ _ _ _ hel, run_slice_lh _ _ _ _ _ hel .i64 .i64 (l : Int) (h : Int) (by omega) (by omega) (by omega), hsz]
  simp [sliced, Result.andThen]
  unfold Addr.add
  split <;> simp_all

theorem Blk.put0 {w : World} {b : Nat} {x y : Value} {T : TypeId} (h : Blk w b #[x, y] T) (x' : Value) : Blk (w.setCell ⟨b, 0, none⟩ x') b #[x', y] T := by
  unfold Blk at *
  simp [World.setCell, Array.getElem?_modify, h]
theorem Blk.put1 {w : World} {b : Nat} {x y : Value} {T : TypeId} (h : Blk w b #[x, y] T) (y' : Value) : Blk (w.setCell ⟨b, 1, none⟩ y') b #[x, y'] T := by
  unfold Blk at *
  simp [World.setCell, Array.getElem?_modify, h]
theorem Tx.later {lo : Nat} {w w' : World} {p : Option Addr} {ws : List (List UInt8)} (h : Tx lo w p ws) (hb : Below lo w w') : Tx lo w' p ws := h.along fun b hb' _ => hb.block b hb'

/-- What is declared: its name; the words of its type; those of its body. -/
structure Apart (ws : List (List UInt8)) (nm : List UInt8) (A B : List (List UInt8)) : Prop where
  ws : ws = [40] :: [100, 101, 102] :: nm :: (A ++ B ++ [[41]])
  name : nameB nm = true
  fst : firstN 0 (A ++ B) = some A.length
  snd : firstN 0 B = some B.length

theorem alloc_two (w : World) (a : Array Value) (c : Array Value) (T : TypeId) : ∃ W, (w.alloc (.cells a T)).alloc (.cells c T) = W ∧ Below w.heap.size w W ∧ Blk W w.heap.size a T ∧ Blk W (w.heap.size + 1) c T ∧ W.heap.size = w.heap.size + 2 := by
  refine ⟨_, rfl, ((Below.refl _ _).alloc (Nat.le_refl _) _).alloc (by simp) _, (Blk.new w a _).alloc _, ?_, by simp⟩
  have := Blk.new (w.alloc (.cells a T)) c T
  rw [World.size_alloc] at this
  exact this

set_option maxHeartbeats 4000000 in
theorem apart_any (w : World) (p : Option Addr) (cap : Nat) (ws : List (List UInt8)) (nm : List UInt8) (A B : List (List UInt8)) (h : Tx w.heap.size w p ws) (hcap : ws.length ≤ cap) (hc : ws.length ≤ 1000000) (ha : Apart ws nm A B) (hv : Vs w.heap.size w) (hnl : nm.length ≤ 1500) :
    Calls Tryz.prog 40 #[.slice p ws.length cap] w fun e w' => (∃ p1 p2 c1 c2, e = .returned (.tuple #[.string ⟨nm.toArray⟩, .agg #[.slice p1 A.length c1, .slice p2 B.length c2], .int .i64 0]) ∧ Tx w.heap.size w' p1 A ∧ Tx w.heap.size w' p2 B ∧ A.length ≤ c1 ∧ B.length ≤ c2) ∧ Below w.heap.size w w' := by
  obtain ⟨m, hm⟩ : ∃ m, A.length + B.length = m := ⟨_, rfl⟩
  have hA1 := firstN_pos _ _ _ ha.fst
  have hB1 := firstN_pos _ _ _ ha.snd
  have hwl : ws.length = m + 4 := by rw [ha.ws]; simp; omega
  obtain ⟨b, o, hpe, hlo, c0⟩ := h.at (i := 0) (by omega)
  subst hpe
  have hcell : ∀ i, i < ws.length → w.cell? ⟨b, o + i, none⟩ = some (.string ⟨(ws.getD i []).toArray⟩) := fun i hi => by
    obtain ⟨b', o', he, _, h1⟩ := h.at hi
    obtain ⟨rfl, rfl⟩ : b = b' ∧ o = o' := by simpa using he
    exact h1
  have c1 := hcell 1 (by omega)
  have c2 := hcell 2 (by omega)
  have c3 := hcell (m + 3) (by omega)
  rw [show ws.getD 0 [] = [40] by rw [ha.ws]; rfl, Nat.add_zero] at c0
  rw [show ws.getD 1 [] = [100, 101, 102] by rw [ha.ws]; rfl] at c1
  rw [show ws.getD 2 [] = nm by rw [ha.ws]; rfl] at c2
  rw [show ws.getD (m + 3) [] = [41] by
    rw [ha.ws, List.getD_eq_getElem?_getD, show m + 3 = m + 1 + 1 + 1 by omega]
    simp only [List.getElem?_cons_succ]
    rw [List.getElem?_append_right (by simp; omega)]
    simp [show m - (A.length + B.length) = 0 by omega]] at c3
  have HM : Hid (Tx w.heap.size w (some ⟨b, o + 3, none⟩) (A ++ B)) := by
    refine ⟨b, o + 3, fun _ => ⟨rfl, hlo⟩, fun i hi => ?_⟩
    rw [List.length_append] at hi
    rw [show o + 3 + i = o + (3 + i) by omega, hcell (3 + i) (by omega)]
    congr 3
    rw [ha.ws, List.getD_eq_getElem?_getD, List.getD_eq_getElem?_getD, show 3 + i = i + 1 + 1 + 1 by omega]
    simp only [List.getElem?_cons_succ]
    rw [List.getElem?_append_left (by simp; omega)]
  have HSM : Hid (∀ W : World, (Instr.sliceAt 102 (.slice (some ⟨b, o, none⟩) (m + 4) cap) (some (.int .i64 3)) (some (.int .i64 ((m : Int) + 4 - 1))) none).run Tryz.prog W = .ok (.slice (some ⟨b, o + 3, none⟩) m (cap - 3 : Nat)) W) := fun W => by
    have := cut_mid b o (m + 4) cap 3 (m + 3) (by omega) (by omega) (by omega) (by omega) W
    rw [show m + 3 - 3 = m by omega, show ((m + 3 : Nat) : Int) = (m : Int) + 4 - 1 by omega] at this
    exact this
  have HA : Hid (Apart ws nm A B ∧ A.length + B.length = m ∧ Vs w.heap.size w) := ⟨ha, hm, hv⟩
  rw [hwl] at hcap hc ⊢
  clear ha hm hwl hcell h hv
  obtain ⟨W2, hW2, hb2, B1, B2, hz2⟩ := alloc_two w #[.slice none 0 0, .slice none 0 0] #[.slice none 0 0, .slice none 0 0] 103
  have d0 := below_some hb2 _ _ _ c0
  have d1 := below_some hb2 _ _ _ c1
  have d2 := below_some hb2 _ _ _ c2
  have d3 := below_some hb2 _ _ _ c3
  have HW : Hid (Below w.heap.size w W2 ∧ Blk W2 w.heap.size #[.slice none 0 0, .slice none 0 0] 103 ∧ Blk W2 (w.heap.size + 1) #[.slice none 0 0, .slice none 0 0] 103) := ⟨hb2, B1, B2⟩
  have HC2 := (show Hid _ from c2)
  clear c0 c1 c2 c3 hb2 B1 B2
  have hcmA : A.length + B.length ≤ (cap - 3) := by have := HA.out.2.1; omega
  obtain ⟨c4, hc4⟩ : ∃ c, c = (cap - 3) - A.length := ⟨_, rfl⟩
  have hB4 : B.length ≤ c4 := by omega
  have HF1 : Hid (∀ wr, Below w.heap.size w wr → Calls Tryz.prog 58 #[.slice (some ⟨b, o + 3, none⟩) m (cap - 3)] wr fun e w' => (∃ p2, e = .returned (.tuple #[.slice (some ⟨b, o + 3, none⟩) A.length (cap - 3), .slice p2 B.length c4]) ∧ Tx w.heap.size wr p2 B) ∧ Below wr.heap.size wr w') := fun wr hb => by
    have h1 := first_any w.heap.size wr (some ⟨b, o + 3, none⟩) (cap - 3) (A ++ B) A.length (HM.out.along fun k _ hk => hb.block k hk) (by simpa using hcmA) HA.out.1.fst (by have := HA.out.2.1; simp; omega)
    rw [show (A ++ B).length = m by have := HA.out.2.1; simp; omega, show m - A.length = B.length by have := HA.out.2.1; omega, ← hc4, List.drop_left] at h1
    exact h1
  have HF2 : Hid (∀ wr p2, Tx w.heap.size wr p2 B → Calls Tryz.prog 58 #[.slice p2 B.length c4] wr fun e w' => (∃ p3 c5, e = .returned (.tuple #[.slice p2 B.length c4, .slice p3 0 c5])) ∧ Below wr.heap.size wr w') := fun wr p2 ht => by
    refine (first_any w.heap.size wr p2 c4 B B.length ht hB4 HA.out.1.snd (by have := HA.out.2.1; omega)).mono fun e w' h1 => ?_
    obtain ⟨⟨p3, h2, _⟩, h3⟩ := h1
    rw [Nat.sub_self] at h2
    exact ⟨⟨p3, _, h2⟩, h3⟩
  clear hc4
  go_enter Tryz.func40, Tryz.ntmps40
  go_wp2_with fail
  refine (pname_any nm W2 w.heap.size (HA.out.2.2.below HW.out.1) (by omega)).mono ?_
  rintro e w1 ⟨rfl, rfl⟩
  rw [HA.out.1.name]
  have S := HSM.out
  go_wp2_with fail
  clear S d0 d1 d3
  go_loopw [7, 43] (fun left ix wr => ∃ j : Nat, j ≤ 2 ∧ ix = .int .i64 (j : Int) ∧ Below w.heap.size w wr ∧ Blk wr w.heap.size #[.slice none 0 0, .slice none 0 0] 103 ∧ ((j = 0 ∧ left = .slice (some ⟨b, o + 3, none⟩) m (cap - 3) ∧ Blk wr (w.heap.size + 1) #[.slice none 0 0, .slice none 0 0] 103) ∨
      (j = 1 ∧ ∃ p2, left = .slice p2 B.length c4 ∧ Tx w.heap.size wr p2 B ∧ Blk wr (w.heap.size + 1) #[.slice (some ⟨b, o + 3, none⟩) A.length (cap - 3), .slice none 0 0] 103) ∨
      (j = 2 ∧ ∃ p2 p3 c5, left = .slice p3 0 c5 ∧ Tx w.heap.size wr p2 B ∧ Blk wr (w.heap.size + 1) #[.slice (some ⟨b, o + 3, none⟩) A.length (cap - 3), .slice p2 B.length c4] 103))) (fun _ ix _ => 2 - (intOf ix).toNat)
  case atStart => exact ⟨0, by omega, rfl, HW.out.1, HW.out.2.1, .inl ⟨rfl, rfl, HW.out.2.2⟩⟩
  case round =>
    obtain ⟨j, hj, rfl, hb, hr0, hcase⟩ := hrel
    have HB := (show Hid _ from And.intro hb hr0)
    clear hr0
    rcases hcase with ⟨rfl, rfl, hB⟩ | ⟨rfl, p2, rfl, ht, hB⟩ | ⟨rfl, p2, p3, c5, rfl, ht, hB⟩
    · have HC := HF1.out wr hb
      have HBL := (show Hid _ from hB)
      clear hB hb
      go_wp2_with fail
      refine HC.mono ?_
      rintro e w3 ⟨⟨p2, rfl, ht⟩, hb3⟩
      have HX : Hid (Tx w.heap.size wr p2 B ∧ Below wr.heap.size wr w3) := ⟨ht, hb3⟩
      obtain ⟨x0, x1, f0, f1⟩ := (Blk.below (w := wr) HBL.out hb3).two
      clear ht hb3 HC
      go_wp2_with fail
      go_roundw
      case rel =>
        have hz := HB.out.1.size
        have h3 : Below w.heap.size w (w3.setCell ⟨w.heap.size + 1, 0, none⟩ (.slice (some ⟨b, o + 3, none⟩) A.length (cap - 3))) := (HB.out.1.trans (HX.out.2.mono hz)).setCell (by show _ ≤ w.heap.size + 1; omega) _
        have h4 : Below w.heap.size wr (w3.setCell ⟨w.heap.size + 1, 0, none⟩ (.slice (some ⟨b, o + 3, none⟩) A.length (cap - 3))) := (HX.out.2.mono hz).setCell (by show _ ≤ w.heap.size + 1; omega) _
        exact ⟨1, by omega, by go_num, h3, (Blk.below (w := wr) HB.out.2 HX.out.2).of_eq (Below.heap_setCell _ _ _ _ (by show w.heap.size ≠ w.heap.size + 1; omega)), .inr (.inl ⟨rfl, p2, rfl, HX.out.1.later h4, (Blk.below (w := wr) HBL.out HX.out.2).put0 _⟩)⟩
      case measure => simp [intOf]
    · have HC := HF2.out wr p2 ht
      have HBL := (show Hid _ from And.intro hB ht)
      clear hB hb ht
      go_wp2_with fail
      refine HC.mono ?_
      rintro e w3 ⟨⟨p3, c5, rfl⟩, hb3⟩
      have HX : Hid (Below wr.heap.size wr w3) := hb3
      obtain ⟨x0, x1, f0, f1⟩ := (Blk.below (w := wr) HBL.out.1 hb3).two
      clear hb3 HC
      go_wp2_with fail
      go_roundw
      case rel =>
        have hz := HB.out.1.size
        have h3 : Below w.heap.size w (w3.setCell ⟨w.heap.size + 1, 1, none⟩ (.slice p2 B.length c4)) := (HB.out.1.trans (HX.out.mono hz)).setCell (by show _ ≤ w.heap.size + 1; omega) _
        have h4 : Below w.heap.size wr (w3.setCell ⟨w.heap.size + 1, 1, none⟩ (.slice p2 B.length c4)) := (HX.out.mono hz).setCell (by show _ ≤ w.heap.size + 1; omega) _
        exact ⟨2, by omega, by go_num, h3, (Blk.below (w := wr) HB.out.2 HX.out).of_eq (Below.heap_setCell _ _ _ _ (by show w.heap.size ≠ w.heap.size + 1; omega)), .inr (.inr ⟨rfl, p2, p3, c5, rfl, HBL.out.2.later h4, (Blk.below (w := wr) HBL.out.1 HX.out).put1 _⟩)⟩
      case measure => simp [intOf]
    · have HBL := (show Hid _ from And.intro hB ht)
      obtain ⟨x0, x1, f0, f1⟩ := Blk.two (w := wr) HBL.out.1
      clear hB hb ht
      obtain ⟨y0, y1, g0, g1⟩ := Blk.two (w := wr) HB.out.2
      have d5 : wr.cell? ⟨b, o + 2, none⟩ = some (.string ⟨nm.toArray⟩) := by rw [World.cell?_of_block (w := w) (HB.out.1.block b hlo)]; exact HC2.out
      go_wp2_with fail
      go_region
      have hz := HB.out.1.size
      have h3 : Below w.heap.size wr ((wr.setCell ⟨w.heap.size, 0, none⟩ (.slice (some ⟨b, o + 3, none⟩) A.length (cap - 3))).setCell ⟨w.heap.size, 1, none⟩ (.slice p2 B.length c4)).drew := (((Below.refl _ wr).setCell (by show _ ≤ w.heap.size; omega) _).setCell (by show _ ≤ w.heap.size; omega) _).drew
      obtain ⟨z0, z1, _, _⟩ := ((Blk.put0 (w := wr) HB.out.2 (.slice (some ⟨b, o + 3, none⟩) A.length (cap - 3))).put1 (.slice p2 B.length c4)).two
      have HFin := (show Hid _ from h3)
      clear h3
      go_wp2_with fail
      have u0 : World.cell? ((wr.setCell ⟨w.heap.size, 0, none⟩ (.slice (some ⟨b, o + 3, none⟩) A.length (cap - 3))).setCell ⟨w.heap.size, 1, none⟩ (.slice p2 B.length c4)).drew ⟨w.heap.size, 0, none⟩ = some (.slice (some ⟨b, o + 3, none⟩) A.length (cap - 3)) := z0
      have u1 : World.cell? ((wr.setCell ⟨w.heap.size, 0, none⟩ (.slice (some ⟨b, o + 3, none⟩) A.length (cap - 3))).setCell ⟨w.heap.size, 1, none⟩ (.slice p2 B.length c4)).drew ⟨w.heap.size, 1, none⟩ = some (.slice p2 B.length c4) := z1
      refine bodyPost_ret (v := .tuple #[.string ⟨nm.toArray⟩, .agg #[.slice (some ⟨b, o + 3, none⟩) A.length (cap - 3), .slice p2 B.length c4], .int .i64 0]) (by simp [results, Tryz.results40, go_sem, u0, u1]) rfl ?_
      have hAB := HA.out.2.1
      refine ⟨⟨_, p2, _, c4, rfl, ?_, HBL.out.2.later HFin.out, by omega, hB4⟩, HB.out.1.trans HFin.out⟩
      have := (HM.out.later (HB.out.1.trans HFin.out)).take A.length
      rwa [List.take_left] at this
end Go.Proofs.YthfjmcomhccbaaaGreatDoor

namespace Go.Proofs.YthfjmcomhccbaaaGreatDoor
open Go.Shelf Go.RowKit Tmx
set_option maxRecDepth 60000

theorem bExtra : Builder.Extra Tryz.prog Tryz.laysJoin_ren where
  sizeBuilder := by kernel_rfl
  liesBuilder := by kernel_rfl
  t5 := by kernel_rfl
  a5 := fun w => by kernel_rfl
  z5 := fun w => by kernel_rfl
  v5 := fun w => by kernel_rfl
  infoByte := by kernel_rfl
  cellsByte := by kernel_rfl
  sizeByte := by kernel_rfl
  neB5 := by decide
/-- Words with blanks between. -/
def joinB (ws : List (List UInt8)) : List UInt8 := Lib.join ws [32]
theorem join_any (lo : Nat) (w : World) (p : Option Addr) (c : Nat) (ws : List (List UInt8)) (h : Tx lo w p ws) (h0 : 0 < ws.length) (hlo : lo ≤ w.heap.size) (hc : ws.length ≤ c) (hn : ws.length ≤ 1000000) (hl : (joinB ws).length ≤ 1000000) :
    Calls Tryz.prog 60 #[.slice p ws.length c, .string ⟨#[32]⟩] w fun e w' => e = .returned (.string ⟨(joinB ws).toArray⟩) ∧ Below w.heap.size w w' := by
  obtain ⟨b, o, rfl, hb, _⟩ := h.at (i := 0) h0
  have hcell : ∀ i, i < ws.length → w.cell? ⟨b, o + i, none⟩ = some (.string ⟨(ws.getD i []).toArray⟩) := fun i hi => by
    obtain ⟨b', o', he, _, h1⟩ := h.at hi
    obtain ⟨rfl, rfl⟩ : b = b' ∧ o = o' := by simpa using he
    exact h1
  have hm : (ws.map fun l => (⟨l.toArray⟩ : ByteArray)).map (·.data.toList) = ws := by
    rw [List.map_map]
    conv => rhs; rw [← List.map_id ws]
    exact List.map_congr_left fun l _ => by simp
  have := Any.strings_Join Tryz.laysJoin bExtra b o c (ws.map fun l => (⟨l.toArray⟩ : ByteArray)) ⟨#[32]⟩ w (fun j x hj => by
    rw [List.getElem?_map] at hj
    cases e : ws[j]? with
    | none => rw [e] at hj; simp at hj
    | some l =>
      rw [e] at hj
      simp only [Option.map_some, Option.some.injEq] at hj
      subst hj
      have hlt : j < ws.length := (List.getElem?_eq_some_iff.1 e).1
      rw [hcell j hlt]
      simp [List.getD_eq_getElem?_getD, e]) (by omega) (by simp; omega) (by simpa using hc) (by rw [hm]; show (joinB ws).length ≤ _; omega)
  rw [hm, List.length_map] at this
  exact this
theorem lclone_any (l : List UInt8) (w : World) (hl : l.length ≤ 1000000) : Calls Tryz.prog 61 #[.string ⟨l.toArray⟩] w fun e w' => e = .returned (.string ⟨l.toArray⟩) ∧ Below w.heap.size w w' :=
  Any.stringslite_Clone (ρ := Tryz.laysAtoi_ren) { Tryz.laysAtoi with } ⟨l.toArray⟩ w (by simp [ByteArray.size]; omega)
theorem sclone_any (l : List UInt8) (w : World) (hl : l.length ≤ 1000000) : Calls Tryz.prog 44 #[.string ⟨l.toArray⟩] w fun e w' => e = .returned (.string ⟨l.toArray⟩) ∧ Below w.heap.size w w' := by
  have HC := lclone_any l w hl
  go_enter Tryz.func44, Tryz.ntmps44
  go_wp2_with fail
  refine HC.mono ?_
  rintro e w1 ⟨rfl, hb⟩
  go_wp2_with fail
  go_ret
  exact ⟨rfl, hb⟩
theorem index_one (l : List UInt8) (c : UInt8) (w : World) : Calls Tryz.prog 39 #[.string ⟨l.toArray⟩, .string ⟨#[c]⟩] w fun e w' => e = .returned (.int .i64 (Lib.indexByte l c)) ∧ w' = w := by
  have := Any.strings_Index_one Tryz.laysIndex ⟨l.toArray⟩ c w
  exact this
end Go.Proofs.YthfjmcomhccbaaaGreatDoor
