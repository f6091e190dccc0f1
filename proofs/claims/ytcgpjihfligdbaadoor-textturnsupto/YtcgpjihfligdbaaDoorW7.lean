/-
  mapVars: a term, in which each variable is what a function value makes of it; all lists are new.
-/
import Derived.Test.YtcgpjihfligdbaaDoorW1
import Derived.Test.YtcgpjihfligdbaaDoorMem2
import Derived.Test.YtcgpjihfligdbaaDoorPlain2m
import Derived.Deep.RegionHeld3
namespace Go.Proofs.YtcgpjihfligdbaaDoor
open Go.RowKit Tmx
theorem u22 : Tryd.prog.underlying 22 = some (.slice 24) := by kernel_rfl
theorem i24 : (Tryd.prog.info? 24).map (fun i => (i.zero, i.size, i.bytes)) = some (some (.agg #[.int .i64 0, .int .i64 0, .slice none 0 0]), 3, 40) := by kernel_rfl
/-- The cells of c new terms. -/
def zeros (c : Nat) : Array Value := madeCells #[.int .i64 0, .int .i64 0, .slice none 0 0] (c * 3)
theorem make24 (c : Nat) (h : c ≤ 1099511627776) (W : World) :
    (Instr.makeSlice 22 (.int .i64 c) (.int .i64 c)).run Tryd.prog W = .ok (.slice (some ⟨W.heap.size, 0, none⟩) c c) (W.alloc (.cells (zeros c) 24)) := by
  obtain ⟨i, hi, he⟩ := Option.map_eq_some_iff.1 i24
  simp only [Prod.mk.injEq] at he
  obtain ⟨hz, hs, hb⟩ := he
  have := run_make (P := Tryd.prog) W 22 24 i _ u22 hi hz .i64 .i64 (c : Int) (c : Int) (by omega) (by omega) (by rw [hb]; omega) (by omega)
  rw [hs, Int.toNat_natCast] at this
  exact this
theorem zeros_row (c : Nat) (w : World) : ∃ G, (w.alloc (.cells (zeros c) 24)).rowIs w.heap.size 24 (c * 3) G := by
  have h := World.rowIs_alloc w (zeros c) 24 (fun i => (zeros c)[i]?.getD .nilFunc) (fun i hi => by simp [hi])
  rw [show (zeros c).size = c * 3 from size_madeCells _ _] at h
  exact ⟨_, h⟩

/-- What is there behind a call that was made where a term's box had been laid last, and a row stood open. -/
theorem row_behind {wr w1 : World} {a b c : Value} {B m : Nat} {G : Nat → Value} (hG : wr.rowIs B 24 m G) (hb : Below (wr.alloc (.cells #[a, b, c] 24)).heap.size (wr.alloc (.cells #[a, b, c] 24)) w1) : w1.rowIs B 24 m G :=
  (hG.alloc _).of_block (hb.block _ (by have := hG.lt; simp; omega))
theorem row3 {w : World} {B m : Nat} {G : Nat → Value} (hG : w.rowIs B 24 (m * 3) G) {j : Nat} (hj : j < m) :
    (∃ v, w.cell? ⟨B, j * 3, none⟩ = some v) ∧ (∃ v, w.cell? ⟨B, j * 3 + 1, none⟩ = some v) ∧ (∃ v, w.cell? ⟨B, j * 3 + 2, none⟩ = some v) ∧
    w.frozen? ⟨B, j * 3, none⟩ = false ∧ w.frozen? ⟨B, j * 3 + 1, none⟩ = false ∧ w.frozen? ⟨B, j * 3 + 2, none⟩ = false :=
  ⟨⟨_, hG.cell (by omega)⟩, ⟨_, hG.cell (by omega)⟩, ⟨_, hG.cell (by omega)⟩, hG.frozen _, hG.frozen _, hG.frozen _⟩

/-- A term as it is answered: a value v that holds x in w, all in blocks from lo on. -/
def Tm (lo : Nat) (w : World) (v : Value) (x : Int × Int × F) : Prop := ∃ p cap, v = .agg #[.int .i64 x.1, .int .i64 x.2.1, .slice p (len x.2.2) cap] ∧ SlF lo w p x.2.2

/-- What a function value does: of a number, and how many are bound around it, it makes g, in every world behind W. -/
def Makes (c : Nat) (caps : Array Value) (g : Fn2) (W : World) : Prop :=
  ∀ (n within : Int) (w : World), Below W.heap.size W w → 0 ≤ n → n ≤ 1152921504606846976 → 0 ≤ within → within ≤ 1152921504606846976 →
    Calls Tryd.prog c (#[.int .i64 n, .int .i64 within] ++ caps) w fun e w' => (∃ v, e = .returned v ∧ Tm w.heap.size w' v (g n within)) ∧ Below w.heap.size w w'

set_option maxHeartbeats 1000000 in
theorem map_any (c : Nat) (caps : Array Value) (g : Fn2) (W : World) (hcall : ∀ a W, Sem.run Tryd.prog (callFunc c a) W = .ok (Next.enter c a) W) (hf : Makes c caps g W) (m : Nat) :
    ∀ (f : F) (k n within : Int) (q : Option Addr) (cap : Nat) (w : World), size f < m → size f ≤ 1099511627776 → nums f → (k = 1 → 0 ≤ n ∧ n ≤ 1152921504606846976) → 0 ≤ within → within + 2 * size f ≤ 1152921504606846976 → Sl w q f → Below W.heap.size W w →
    Calls Tryd.prog 41 #[.agg #[.int .i64 k, .int .i64 n, .slice q (len f) cap], .int .i64 within, .func (.func c) #[] caps] w fun e w' => (∃ v, e = .returned v ∧ Tm w.heap.size w' v (mapT g k n f within)) ∧ Below w.heap.size w w' := by
  induction m with
  | zero => intro f k n within q cap w h; omega
  | succ m ih =>
    intro f k n within q cap w hm hsz hnum hkn h0 hw hs hW
    have H := (show Hid _ from ih)
    clear ih
    by_cases hk : k = 1
    · have MT : Hid (mapT g k n f within = g n within) := by unfold mapT; rw [if_pos hk]; rfl
      have tk : (k == 1) = true := by simpa using hk
      obtain ⟨hn0, hn1⟩ := hkn hk
      clear hk
      go_enter Tryd.func41, Tryd.ntmps41
      go_wp2_with fail
      refine (hf n within _ (hW.trans ((((Below.refl _ _).alloc (Nat.le_refl _) _).alloc (by simp) _).mono hW.size)) hn0 hn1 h0 (by omega)).mono ?_
      rintro e w1 ⟨⟨v, rfl, p, cap', rfl, hsl⟩, hb1⟩
      have hbox := (Box.new (w.alloc (.cells #[.int .i64 k, .int .i64 n, .slice q (len f) cap] 24)) (.int .i64 0) (.int .i64 0) (.slice none 0 0)).below hb1
      rw [World.size_alloc] at hbox
      obtain ⟨c0, c1, c2, f0, f1, f2⟩ := hbox.facts
      go_wp2_with fail
      obtain ⟨d0, d1, d2, _, _, _⟩ := (hbox.set (.int .i64 (g n within).1) (.int .i64 (g n within).2.1) (.slice p (len (g n within).2.2) cap')).facts
      have hz1 : w.heap.size + 2 ≤ w1.heap.size := by have := hb1.size; simp at this; omega
      refine bodyPost_ret (v := .agg #[.int .i64 (g n within).1, .int .i64 (g n within).2.1, .slice p (len (g n within).2.2) cap']) (by simp [results, Tryd.results41, go_sem, d0, d1, d2]) rfl ⟨⟨_, rfl, p, cap', by rw [MT.out], ?_⟩, ?_⟩
      · rw [MT.out]
        simp only [World.size_alloc] at hsl
        exact (((hsl.setCell (by show w.heap.size + 1 < _; omega) _).setCell (by show w.heap.size + 1 < _; omega) _).setCell (by show w.heap.size + 1 < _; omega) _).mono (by omega)
      · exact (((((((Below.refl _ _).alloc (Nat.le_refl _) _).alloc (by simp) _).trans (hb1.mono (by simp; omega))).setCell (by simp) _).setCell (by simp) _).setCell (by simp) _)
    · have tk : (k == 1) = false := by simpa using hk
      have MT : Hid (mapT g k n f within = (k, n, mapF g f within k 0)) := by unfold mapT; rw [if_neg hk]; rfl
      clear hk hkn
      have hls := len_le_size f
      cases tl : ((len f : Int) == 0)
      · have hl0 : 0 < len f := by have : (len f : Int) ≠ 0 := by simpa using tl
                                   omega
        have hmk := make24 (len f) (by omega)
        go_enter Tryd.func41, Tryd.ntmps41
        go_wp2_with fail
        obtain ⟨B, hB⟩ : ∃ B, w.heap.size + 1 + 1 + 1 = B := ⟨_, rfl⟩
        rw [hB]
        have HB : Hid (w.heap.size + 1 + 1 + 1 = B) := hB
        have hB2 : B ≤ w.heap.size + 3 ∧ w.heap.size + 3 ≤ B := by omega
        clear hB
        go_loopw [8, 36] (fun _ i wr => ∃ j : Nat, j ≤ len f ∧ i = .int .i64 j ∧ Below w.heap.size w wr ∧ Box wr w.heap.size (.int .i64 k) (.int .i64 n) (.slice q (len f) cap) ∧ (∃ a0 a1 a2, Box wr (w.heap.size + 1) a0 a1 a2) ∧ Box wr (w.heap.size + 1 + 1) (.int .i64 k) (.int .i64 n) (.slice (some ⟨B, 0, none⟩) (len f) (len f)) ∧
            (∃ G, wr.rowIs B 24 (len f * 3) G) ∧ RowP B wr j 0 (mapF g f within k 0)) (fun _ i _ => len f - (intOf i).toNat)
        case atStart =>
          refine ⟨0, Nat.zero_le _, rfl, ((((Below.refl _ _).alloc (Nat.le_refl _) _).alloc (by simp) _).alloc (by simp; omega) _).alloc (by simp; omega) _, (((Box.new w _ _ _).alloc _).alloc _).alloc _, ⟨.int .i64 0, .int .i64 0, .slice none 0 0, ?_⟩, ?_, ?_, trivial⟩
          · have := (((Box.new (w.alloc (.cells #[.int .i64 k, .int .i64 n, .slice q (len f) cap] 24)) (.int .i64 0) (.int .i64 0) (.slice none 0 0)).alloc (.cells #[.int .i64 k, .int .i64 n, .slice (some ⟨B, 0, none⟩) (len f) (len f)] 24)).alloc (.cells (zeros (len f)) 24))
            rw [World.size_alloc] at this
            exact this
          · have := (Box.new ((w.alloc (.cells #[.int .i64 k, .int .i64 n, .slice q (len f) cap] 24)).alloc (.cells #[.int .i64 0, .int .i64 0, .slice none 0 0] 24)) (.int .i64 k) (.int .i64 n) (.slice (some ⟨B, 0, none⟩) (len f) (len f))).alloc (.cells (zeros (len f)) 24)
            rw [World.size_alloc, World.size_alloc] at this
            exact this
          · have := zeros_row (len f) (((w.alloc (.cells #[.int .i64 k, .int .i64 n, .slice q (len f) cap] 24)).alloc (.cells #[.int .i64 0, .int .i64 0, .slice none 0 0] 24)).alloc (.cells #[.int .i64 k, .int .i64 n, .slice (some ⟨B, 0, none⟩) (len f) (len f)] 24))
            rw [World.size_alloc, World.size_alloc, World.size_alloc, HB.out] at this
            exact this
        case round =>
          clear hmk
          obtain ⟨j, hj, rfl, hb, bx, ⟨a0, a1, a2, by_⟩, bz, ⟨G, hG⟩, hP⟩ := hrel
          by_cases hlt : j < len f
          · obtain ⟨b, o, k', n', p, cap', x, y, l, r, rfl, e, hbl, c1, c2, c3, hsl⟩ := hs.at hb hlt
            have hz := size_drop j f
            rw [e, size] at hz
            have hnj := nums_drop j f hnum
            rw [e, nums] at hnj
            have E1 : Hid (drop j f = .node x y (k', n') l r) := e
            have HN : Hid (nums (.node x y (k', n') l r)) := hnj
            clear e hnj
            obtain ⟨x0, x1, x2, _, _, _⟩ := bx.facts
            obtain ⟨z0, z1, z2, _, _, _⟩ := bz.facts
            have l1 := bx.lt
            have l2 := bz.lt
            have l3 := hG.lt
            have ne1 : w.heap.size ≠ B := by omega
            have ne2 : w.heap.size + 1 + 1 ≠ B := by omega
            have ne3 : wr.heap.size ≠ B := by omega
            have ne4 : B ≠ w.heap.size := by omega
            have ne5 : B ≠ w.heap.size + 1 + 1 := by omega
            have ne6 : B ≠ wr.heap.size := by omega
            have hbb := bindsAt_bd k j
            go_wp2_with fail
            go_region_held3 (fun w' => w'.cell? ⟨wr.heap.size, 0, none⟩ = some (.int .i64 k') ∧ w'.cell? ⟨wr.heap.size, 1, none⟩ = some (.int .i64 n') ∧ w'.cell? ⟨wr.heap.size, 2, none⟩ = some (.slice p (len l) cap') ∧
                w'.cell? ⟨w.heap.size, 0, none⟩ = some (.int .i64 k) ∧ w'.cell? ⟨w.heap.size + 1 + 1, 2, none⟩ = some (.slice (some ⟨B, 0, none⟩) (len f) (len f))) (go_keep)
              (first | (go_at_call 73; refine (bindsAt_any k j _).mono ?_; rintro e w' ⟨rfl, rfl⟩) | (go_at_call 41; rw [wrapI (within + bindsAt k j) (by omega) (by omega)]; refine (H.out l k' n' (within + bindsAt k j) p cap' _ (by omega) (by omega) HN.out.2.1 HN.out.1 (by omega) (by omega) (hsl.below ((Below.refl _ _).alloc (Nat.le_refl _) _).drew) (hW.trans ((hb.trans (((Below.refl _ _).alloc (Nat.le_refl _) _).drew.mono hb.size)).mono hW.size))).mono ?_; rintro e w1 ⟨⟨v, rfl, p1, cap1, rfl, hsl1⟩, hb1'⟩; have hb1 := undrew hb1'; clear hb1'; have bx1 := (bx.alloc _).below hb1; have bz1 := (bz.alloc _).below hb1; have bn1 := (Box.new wr _ _ _).below hb1; have hG1 := row_behind hG hb1; obtain ⟨y0, y1, y2, _, _, _⟩ := bx1.facts; obtain ⟨v0, v1, v2, _, _, _⟩ := bz1.facts; obtain ⟨u0, u1, u2, _, _, _⟩ := bn1.facts; obtain ⟨⟨g0, r0⟩, ⟨g1, r1⟩, ⟨g2, r2⟩, s0, s1, s2⟩ := row3 hG1 hlt))
            obtain ⟨w2, hw2, hG2, q0, q1, q2, hold, hblk, hbel⟩ := store3 hG1 hlt (.int .i64 (mapT g k' n' l (within + bindsAt k j)).1) (.int .i64 (mapT g k' n' l (within + bindsAt k j)).2.1) (.slice p1 (len (mapT g k' n' l (within + bindsAt k j)).2.2) cap1)
            rw [hw2]
            clear hw2 y0 y1 y2 v0 v1 v2 u0 u1 u2 r0 r1 r2 s0 s1 s2 x0 x1 x2 z0 z1 z2 c1 c2 c3
            have hb12 : Below wr.heap.size wr w1 := ((Below.refl _ _).alloc (Nat.le_refl _) _).trans (hb1.mono (by simp))
            have F1 : Hid (Below w.heap.size w w2) := (hb.trans (hb12.mono hb.size)).trans (hbel _ (by omega))
            have F2 : Hid (Box w2 w.heap.size (.int .i64 k) (.int .i64 n) (.slice (some ⟨b, o, none⟩) (len f) cap)) := bx1.of_block (hblk _ ne1)
            have F3 : Hid (∃ a0 a1 a2, Box w2 (w.heap.size + 1) a0 a1 a2) := ⟨a0, a1, a2, (by_.below hb12).of_block (hblk _ (by omega))⟩
            have F4 : Hid (Box w2 (w.heap.size + 1 + 1) (.int .i64 k) (.int .i64 n) (.slice (some ⟨B, 0, none⟩) (len f) (len f))) := bz1.of_block (hblk _ ne2)
            have F5 : Hid (∃ G, w2.rowIs B 24 (len f * 3) G) := hG2
            have ed : drop j (mapF g f within k 0) = .node 0 0 ((mapT g k' n' l (within + bindsAt k j)).1, (mapT g k' n' l (within + bindsAt k j)).2.1) (mapT g k' n' l (within + bindsAt k j)).2.2 (mapF g r within k (j + 1)) := by
              rw [drop_mapF, E1.out, mapF_node]
              simp
            have hlw : wr.heap.size < w1.heap.size := by have := hb1.size; simp at this; omega
            have F6 : Hid (RowP B w2 (j + 1) 0 (mapF g f within k 0)) := by
              refine RowP.snoc (p := p1) (cap := cap1) j _ 0 ed (RowP.carry j _ 0 (fun i v _ hi hv => hold i v (by omega) (below_some hb12 _ _ _ hv)) (fun b' o' v hb' hv => ?_) hP) (by simpa using q0) (by simpa using q1) (by simpa using q2) ?_
              · rw [World.cell?_of_block (w := w1) (hblk b' (by omega))]
                exact below_some hb12 _ _ _ hv
              · exact (hsl1.mono (by show B + 1 ≤ (wr.alloc _).heap.size; rw [World.size_alloc]; omega)).carry fun b' o' v hb' hv => by rw [World.cell?_of_block (w := w1) (hblk b' (by omega))]; exact hv
            clear hG1 hG2 q0 q1 q2 hold hblk hbel ed hsl1 hb12 bx1 bz1 bn1 hb1
            go_wp2_with fail
            go_roundw
            case rel => exact ⟨j + 1, hlt, by go_num, F1.out, F2.out, F3.out, F4.out, F5.out, F6.out⟩
            case measure => simp [intOf]; omega
          · obtain rfl : j = len f := by omega
            obtain ⟨y0, y1, y2, g0, g1, g2⟩ := by_.facts
            obtain ⟨z0, z1, z2, _, _, _⟩ := bz.facts
            have l3 := hG.lt
            go_wp2_with fail
            obtain ⟨d0, d1, d2, _, _, _⟩ := (by_.set (.int .i64 k) (.int .i64 n) (.slice (some ⟨B, 0, none⟩) (len f) (len f))).facts
            refine bodyPost_ret (v := .agg #[.int .i64 k, .int .i64 n, .slice (some ⟨B, 0, none⟩) (len f) (len f)]) (by simp [results, Tryd.results41, go_sem, d0, d1, d2]) rfl ⟨⟨_, rfl, some ⟨B, 0, none⟩, len f, by rw [MT.out, len_mapF], ?_⟩, ?_⟩
            · rw [MT.out]
              have hall : SlF (w.heap.size + 2) wr (some ⟨B, 0, none⟩) (mapF g f within k 0) := ⟨B, 0, fun _ => rfl, RowP.all (by omega) _ _ (by rw [len_mapF]; exact hP)⟩
              exact (((hall.setCell (by show w.heap.size + 1 < _; omega) _).setCell (by show w.heap.size + 1 < _; omega) _).setCell (by show w.heap.size + 1 < _; omega) _).mono (by omega)
            · exact ((hb.setCell (by simp) _).setCell (by simp) _).setCell (by simp) _
      · have hl0 : len f = 0 := by have : (len f : Int) = 0 := by simpa using tl
                                   omega
        have hn := size_nil_of_len f hl0
        subst hn
        go_enter Tryd.func41, Tryd.ntmps41
        go_wp2_with fail
        refine bodyPost_ret (v := .agg #[.int .i64 k, .int .i64 n, .slice none 0 0]) (by simp [results, Tryd.results41, go_sem]) rfl ⟨⟨_, rfl, none, 0, by rw [MT.out]; rfl, ?_⟩, ?_⟩
        · rw [MT.out]
          exact SlF.nil _ _ _
        · exact (((Below.refl _ _).alloc (Nat.le_refl _) _).alloc (by simp) _).alloc (by simp; omega) _
end Go.Proofs.YtcgpjihfligdbaaDoor
