/-
  The program's writer: a term by its kind's word.
-/
import Derived.Test.YtcgpjihfligdbaaDoorP3
namespace Go.Proofs.YtcgpjihfligdbaaDoor
open Go.RowKit Tmx
set_option maxRecDepth 60000

theorem WS.drew {lo b : Nat} {w : World} {l : List UInt8} {ns ds : List (List UInt8)} {bv : Value} (h : WS lo b w l ns ds bv) : WS lo b w.drew l ns ds bv := h.below (Below.refl _ _).drew
theorem KP.drew {lo : Nat} {w w' : World} (h : KP lo w.drew w') : KP lo w w' := (KP.of_below (Below.refl _ _).drew).trans h
theorem ppF_first (ds : List (List UInt8)) {f : F} {i : Nat} {x y : Nat} {a : Int × Int} {l r : F} (h : drop i f = .node x y a l r) (sh : List UInt8) (ns : List (List UInt8)) (fl : Bool) :
    ppF ds (drop i f) sh ns fl = (if fl = true then [32] else []) ++ (xaft (xsOf (more sh) ns.length) ++ (ppT ds (ns ++ xsOf (more sh) ns.length) a.1 a.2 l ++ ppF ds (drop (i + 1) f) sh.tail ns true)) := by
  rw [h, ppF_node, drop_succ i f x y a l r h]
theorem lookF_at {decls bound deep k : Int} : ∀ (i : Nat) (f : F) (j : Nat) {x y : Nat} {a : Int × Int} {l r : F}, drop i f = .node x y a l r → lookF decls f bound deep k j = 0 → lookT decls (bound + bindsAt k ((j + i : Nat) : Int)) deep a.1 a.2 l = 0
  | 0, f, j, x, y, a, l, r, h, hl => by
    rw [drop] at h
    subst h
    exact (lookF_first hl).1
  | i + 1, .nil, j, x, y, a, l, r, h, hl => by simp [drop] at h
  | i + 1, .node _ _ _ _ r', j, x, y, a, l, r, h, hl => by
    rw [drop] at h
    have := lookF_at i r' (j + 1) h (lookF_first hl).2
    rw [show j + (i + 1) = j + 1 + i by omega]
    exact this
theorem size_at : ∀ (i : Nat) (f : F) {x y : Nat} {a : Int × Int} {l r : F}, drop i f = .node x y a l r → size l < size f
  | 0, f, x, y, a, l, r, h => by
    rw [drop] at h
    subst h
    rw [size]
    omega
  | i + 1, .nil, x, y, a, l, r, h => by simp [drop] at h
  | i + 1, .node _ _ _ _ r', x, y, a, l, r, h => by
    rw [drop] at h
    have := size_at i r' h
    rw [size]
    omega

set_option maxRecDepth 60000 in
set_option maxHeartbeats 4000000 in
theorem wkind_leaf (w0 : World) (b : Nat) (ds : List (List UInt8)) (k n : Int) (p : Option Addr) (cap : Nat) (w : World) (l : List UInt8) (ns : List (List UInt8)) (bv : Value) (hk : 1 ≤ k ∧ k ≤ 18) (hsk : shpL k = []) (h2 : k ≠ 2) (h18 : k ≠ 18)
    (hW : WS w0.heap.size b w l ns ds bv) (hb0 : Below w0.heap.size w0 w) (hlen : l.length + (wordL k.toNat).length ≤ 140737488355328) :
    Calls Tryd.prog 84 #[.pointer (some ⟨b, 0, none⟩), .agg #[.int .i64 k, .int .i64 n, .slice p 0 cap]] w (WrPost w0.heap.size b ds w (l ++ wordL k.toNat) ns) := by
  have hlo0 := hb0.size
  have hbA : Below w.heap.size w (w.alloc (.cells #[.int .i64 k, .int .i64 n, .slice p 0 cap] 24)) := (Below.refl _ _).alloc (Nat.le_refl _) _
  have bx0 := Box.new w (.int .i64 k) (.int .i64 n) (.slice p 0 cap)
  have HB : Hid (Calls Tryd.prog 35 #[.int .i64 k] (w.alloc (.cells #[.int .i64 k, .int .i64 n, .slice p 0 cap] 24)) fun e w' => (∃ g, e = .returned (.tuple #[.slice (some ⟨g, 0, none⟩) 0 0, .bool true])) ∧ Below (w.alloc (.cells #[.int .i64 k, .int .i64 n, .slice p 0 cap] 24)).heap.size (w.alloc (.cells #[.int .i64 k, .int .i64 n, .slice p 0 cap] 24)) w') :=
    (binds_new k _ hk).mono fun e w' ⟨⟨g, _, he, _⟩, hb⟩ => ⟨⟨g, by rw [he, hsk]; rfl⟩, hb⟩
  go_enter Tryd.func84, Tryd.ntmps84
  go_wp2_with fail
  refine HB.out.mono ?_
  clear HB
  rintro e w1 ⟨⟨g, rfl⟩, hb1⟩
  have bx1 := bx0.below hb1
  have hb01 : Below w.heap.size w w1 := hbA.trans (hb1.mono (by simp))
  have hW1 := (hW.below hb01).drew
  have HC1 : Hid (Calls Tryd.prog 99 #[.int .i64 k] w1.drew fun e w' => e = .returned (.string ⟨(wordL k.toNat).toArray⟩) ∧ w' = w1.drew) := wordOf_any k w1.drew w0.heap.size hW1.vs (by omega) (by omega) h2
  have HC2 : Hid (Calls Tryd.prog 82 #[.pointer (some ⟨b, 0, none⟩), .string ⟨(wordL k.toNat).toArray⟩] w1.drew fun e w' => (∃ v, e = .returned v) ∧ WS w0.heap.size b w' (l ++ wordL k.toNat) ns ds bv ∧ KP w0.heap.size w1.drew w') := writeString_any hW1 _ hlen
  obtain ⟨c0, c1, c2, f0, f1, f2⟩ := bx1.facts
  clear hk h2 h18 hsk
  generalize wordL k.toNat = wd at *
  go_wp2_with fail
  go_region_held3 (fun w' => w'.cell? ⟨w.heap.size, 0, none⟩ = some (.int .i64 k)) (go_keep)
    (first
      | (go_at_call 99; with_reducible refine HC1.out.mono ?_; rintro e w2 ⟨rfl, rfl⟩)
      | (go_at_call 82; with_reducible refine HC2.out.mono ?_; rintro e w3 ⟨⟨v3, rfl⟩, hS3, kp3⟩; have bx3 := kp3.box (w := w1.drew) (Box.of_block bx1 rfl); obtain ⟨y0, y1, y2, z0, z1, z2⟩ := bx3.facts))
  go_wp2_with fail
  go_end0
  exact ⟨⟨_, rfl⟩, ⟨bv, hS3⟩, (KP.of_below hb01).trans kp3.drew⟩
set_option maxHeartbeats 1000000 in
theorem binds_row (k : Int) (w : World) (h : 1 ≤ k ∧ k ≤ 18) :
    Calls Tryd.prog 35 #[.int .i64 k] w fun e w' => (∃ g, w.heap.size ≤ g ∧ (∃ cs fr, w'.heap[g]? = some (.cells cs 3 fr)) ∧ e = .returned (.tuple #[.slice (some ⟨g, 0, none⟩) (shpL k).length (shpL k).length, .bool true]) ∧ ∀ i, i < (shpL k).length → w'.cell? ⟨g, i, none⟩ = some (.int .i64 (Tmx.bindsAt k i))) ∧ Below w.heap.size w w' := by
  have h4 := shpL_len k
  have HA : Hid (Calls Tryd.prog 72 #[.int .i64 k] w fun e w' => e = .returned (.tuple #[.int .i64 ((shpL k).length : Int), .bool true]) ∧ w' = w) := arity_yes k w h
  obtain ⟨m, hm⟩ : ∃ m, (shpL k).length = m := ⟨_, rfl⟩
  rw [hm] at HA h4 ⊢
  clear hm h
  have hmk := fun W => make25 m (by omega) W
  go_enter Tryd.func35, Tryd.ntmps35
  go_wp2_with fail
  refine HA.out.mono ?_
  rintro e w1 ⟨rfl, rfl⟩
  go_wp2_with fail
  have hrow := World.rowIs_alloc w1 (madeCells #[.int .i64 0] m) 3 (fun i => (madeCells #[.int .i64 0] m)[i]?.getD .nilFunc) (fun i hi => by rw [Array.getElem?_eq_getElem hi]; rfl)
  rw [show (madeCells #[.int .i64 0] m).size = m from size_madeCells _ _] at hrow
  have hb0 : Below w1.heap.size w1 (w1.alloc (.cells (madeCells #[.int .i64 0] m) 3)) := (Below.refl _ _).alloc (Nat.le_refl _) _
  clear hmk
  go_loopw [7, 19] (fun _ i wr => ∃ j : Nat, j ≤ m ∧ i = .int .i64 j ∧ Below w1.heap.size w1 wr ∧ ∃ G, wr.rowIs w1.heap.size 3 m G ∧ ∀ i, i < j → G i = .int .i64 (Tmx.bindsAt k i)) (fun _ i _ => m - (intOf i).toNat)
  case atStart => exact ⟨0, by omega, rfl, hb0, _, hrow, fun i hi => by omega⟩
  case round =>
    clear hrow hb0
    obtain ⟨j, hj, rfl, hb, G, hG, hGi⟩ := hrel
    have HG : Hid (∀ i, i < j → G i = .int .i64 (Tmx.bindsAt k i)) := hGi
    clear hGi
    by_cases hlt : j < m
    · have c1 := hG.cell hlt
      have f1 := hG.frozen j
      go_wp2_with (first | (go_at_call 73; refine (bindsAt_any k j _).mono ?_; rintro e w' ⟨rfl, rfl⟩))
      go_roundw
      case rel =>
        refine ⟨j + 1, hlt, by go_num, hb.setCell (Nat.le_refl _) _, _, hG.set j (.int .i64 (Tmx.bindsAt k j)), fun i hi => ?_⟩
        show (if i = j then _ else G i) = _
        by_cases e : i = j
        · rw [if_pos e, e]
        · rw [if_neg e]; exact HG.out i (by omega)
      case measure => simp [intOf]; omega
    · obtain rfl : j = m := by omega
      go_wp2
      go_ret2
      refine ⟨⟨w1.heap.size, Nat.le_refl _, (let ⟨c, hc, _⟩ := hG; ⟨c, (0, 0), hc⟩), rfl, fun i hi => ?_⟩, hb⟩
      rw [hG.cell hi, HG.out i hi]
theorem tab_wlen : ∀ K : Fin 19, (wordL K.val).length ≤ 6 := by decide
theorem word_len (k : Int) (hk : 1 ≤ k ∧ k ≤ 18) : (wordL k.toNat).length ≤ 6 := tab_wlen ⟨k.toNat, by omega⟩
theorem cut_ints (g L : Nat) : ∀ W : World, (Instr.sliceAt 61 (.slice (some ⟨g, 0, none⟩) L L) none (some (.int .i64 (L : Int))) none).run Tryd.prog W = .ok (.slice (some ⟨g, 0, none⟩) L L) W := by
  have hel : Tryd.prog.underlying 61 = some (.slice (Tryd.prog.elem 61)) := by kernel_rfl
  have hsz : ∀ W : World, (sizeOf (Tryd.prog.elem 61)).run Tryd.prog W = .ok 1 W := fun W => by kernel_rfl
  intro W
  rw [run_sliceAt_slice _ _ _ _ _ _ hel, run_slice_h _ _ _ _ _ hel .i64 (L : Int) (by omega) (by omega), hsz]
  simp [sliced, Result.andThen]
  intro _
  unfold Addr.add
  split <;> simp_all

/-- The three cells of an argument, and what is behind it. -/
theorem Sl.arg {w0 w : World} {p : Option Addr} {f : F} (hs : Sl w0 p f) (hb : Below w0.heap.size w0 w) {i : Nat} (hi : i < len f) : ∃ bb o k n q cap x y l r, p = some ⟨bb, o, none⟩ ∧ drop i f = .node x y (k, n) l r ∧ bb < w0.heap.size ∧
    w.cell? ⟨bb, o + i * 3, none⟩ = some (.int .i64 k) ∧ w.cell? ⟨bb, o + i * 3 + 1, none⟩ = some (.int .i64 n) ∧ w.cell? ⟨bb, o + i * 3 + 2, none⟩ = some (.slice q (len l) cap) ∧ Sl w0 q l := by
  obtain ⟨bb, o, k, n, q, cap, x, y, l, r, h1, h2, h3, h4, h5, h6, h7⟩ := hs.at (Below.refl _ _) hi
  exact ⟨bb, o, k, n, q, cap, x, y, l, r, h1, h2, h3, below_some hb _ _ _ h4, below_some hb _ _ _ h5, below_some hb _ _ _ h6, h7⟩

set_option maxRecDepth 60000 in
set_option maxHeartbeats 8000000 in
theorem wkind_node (w0 : World) (b : Nat) (ds : List (List UInt8)) (m : Nat) (H : Hid (WrP w0 b ds m)) (f : F) (k n : Int) (p : Option Addr) (cap : Nat) (w : World) (l : List UInt8) (ns : List (List UInt8)) (bv : Value) (deep : Int) (hm : size f ≤ m) (hs : Sl w0 p f) (hlk : lookT ds.length ns.length deep k n f = 0) (hsk : shpL k ≠ [])
    (h1 : 1 ≤ deep) (hbd : (ns.length : Int) + 2 * (25 - deep) ≤ 1000) (hW : WS w0.heap.size b w l ns ds bv) (hb0 : Below w0.heap.size w0 w) (hlen : l.length + (ppT ds ns k n f).length ≤ 140737488355328) :
    Calls Tryd.prog 84 #[.pointer (some ⟨b, 0, none⟩), .agg #[.int .i64 k, .int .i64 n, .slice p (len f) cap]] w (WrPost w0.heap.size b ds w (l ++ ppT ds ns k n f) ns) := by
  obtain ⟨hk, hlf, _, _, hlF, hdeep⟩ := lookT_args hlk
  have hlo0 := hb0.size
  have hL4 := shpL_len k
  have hL0 : 0 < (shpL k).length := List.length_pos_iff.2 hsk
  have hk2 : k ≠ 2 := by rintro rfl; exact hsk (by decide)
  have hk18 : k ≠ 18 := by rintro rfl; exact hsk (by decide)
  obtain ⟨X, hX⟩ : ∃ X, 40 :: (wordL k.toNat ++ ppF ds f (shpL k) ns (decide (k ≠ 5))) = X := ⟨_, rfl⟩
  have hP : ppT ds ns k n f = X ++ [41] := by
    unfold ppT
    rw [if_neg hsk, ← hX]
    simp
  have HX : Hid (40 :: (wordL k.toNat ++ ppF ds f (shpL k) ns (decide (k ≠ 5))) = X) := hX
  rw [hP] at hlen ⊢
  rw [List.length_append, List.length_singleton] at hlen
  have hXl : (wordL k.toNat).length + 1 ≤ X.length := by rw [← hX]; simp
  have hbA : Below w.heap.size w (w.alloc (.cells #[.int .i64 k, .int .i64 n, .slice p (len f) cap] 24)) := (Below.refl _ _).alloc (Nat.le_refl _) _
  have bx0 := Box.new w (.int .i64 k) (.int .i64 n) (.slice p (len f) cap)
  rw [hlf] at hbA bx0 ⊢
  have HLF : Hid (len f = (shpL k).length) := hlf
  clear hX hP hlk hlf
  go_enter Tryd.func84, Tryd.ntmps84
  go_wp2_with fail
  refine (binds_row k _ hk).mono ?_
  rintro e w1 ⟨⟨g, hg, ⟨gcs, gfr, hgb⟩, rfl, hgc⟩, hb1⟩
  have HGC : Hid (∀ i, i < (shpL k).length → w1.cell? ⟨g, i, none⟩ = some (.int .i64 (Tmx.bindsAt k i))) := hgc
  clear hgc
  have bx1 := bx0.below hb1
  have hb01 : Below w.heap.size w w1 := hbA.trans (hb1.mono (by simp))
  have hW1 := (hW.below hb01).drew
  obtain ⟨wd, hwd⟩ : ∃ wd, wordL k.toNat = wd := ⟨_, rfl⟩
  have HWD : Hid (wordL k.toNat = wd) := hwd
  have HC1 : Hid (Calls Tryd.prog 99 #[.int .i64 k] w1.drew fun e w' => e = .returned (.string ⟨wd.toArray⟩) ∧ w' = w1.drew) := by
    have := wordOf_any k w1.drew w0.heap.size hW1.vs (by omega) (by omega) hk2
    rw [hwd] at this
    exact this
  rw [hwd] at hXl
  have hwl : wd.length ≤ 6 := by rw [← hwd]; exact word_len k hk
  have hno : ¬ (9223372036854775807 < 1 + wd.length) := by omega
  clear hwd
  have HC2 : Hid (Calls Tryd.prog 82 #[.pointer (some ⟨b, 0, none⟩), .string ({ data := #[40] } ++ { data := wd.toArray })] w1.drew fun e w' => (∃ v, e = .returned v) ∧ WS w0.heap.size b w' (l ++ 40 :: wd) ns ds bv ∧ KP w0.heap.size w1.drew w') := by
    rw [bs_append [40] wd]
    exact writeString_any hW1 (40 :: wd) (by simp; omega)
  obtain ⟨c0, c1, c2, f0, f1, f2⟩ := bx1.facts
  have hcut := cut_ints g (shpL k).length
  have hgw : w.heap.size < g := by simp at hg; omega
  clear hg hb1 bx0 hbA
  go_wp2_with fail
  first
  | go_region_law (first
      | (go_simp; go_at_call 99; with_reducible refine HC1.out.mono ?_; rintro e w2 ⟨rfl, rfl⟩)
      | (go_simp; go_at_call 82; with_reducible refine HC2.out.mono ?_; rintro e w3 ⟨⟨v3, rfl⟩, hS3, kp3⟩; have bx3 := kp3.box (w := w1.drew) (Box.of_block bx1 rfl); obtain ⟨y0, y1, y2, z0, z1, z2⟩ := bx3.facts))
  | fail
  clear c0 c1 c2 f0 f1 f2 HC1 HC2 y0 y1 z0 z1
  go_wp2_with fail
  clear hcut
  have kpS : KP w0.heap.size w w3 := (KP.of_below hb01).trans kp3.drew
  have hg3 : w3.heap[g]? = some (.cells gcs 3 gfr) := kp3.oth g gcs 3 gfr hgb (by decide) (by decide) (by decide)
  clear hW1 hb01 bx1
  go_loopg [41] (shpL k).length (fun gg ix wr => ∃ (j : Nat) (s' : List UInt8) (bv' : Value), gg = (shpL k).length - j ∧ j ≤ (shpL k).length ∧ ix = .int .i64 (j : Int) ∧ WS w0.heap.size b wr (l ++ s') ns ds bv' ∧ KP w0.heap.size w wr ∧ Box wr w.heap.size (.int .i64 k) (.int .i64 n) (.slice p (shpL k).length cap) ∧ wr.heap[g]? = some (.cells gcs 3 gfr) ∧ Hid (s' ++ ppF ds (drop j f) ((shpL k).drop j) ns (decide (0 < j ∨ k ≠ 5)) = X))
  case atStart => exact ⟨0, 40 :: wd, bv, by simp, Nat.zero_le _, rfl, hS3, kpS, bx3, hg3, by
    show 40 :: wd ++ ppF ds (drop 0 f) ((shpL k).drop 0) ns (decide (0 < 0 ∨ k ≠ 5)) = X
    rw [← HX.out, HWD.out]
    simp [drop]⟩
  case round =>
    clear hS3 kpS bx3 hg3 kp3
    obtain ⟨j, s', bv', rfl, hj, rfl, hS, kp, hbx, hgr, HS⟩ := hrel
    have hbw : Below w0.heap.size w0 wr := hb0.trans (kp.below hlo0)
    obtain ⟨x0, x1, x2, u0, u1, u2⟩ := hbx.facts
    by_cases hlt : j < (shpL k).length
    · obtain ⟨bb, o, k', n', q, cap', x, y, lf, rf, rfl, hdr, hbb, e0, e1, e2, hsq⟩ := Sl.arg hs hbw (i := j) (by rw [HLF.out]; exact hlt)
      obtain ⟨mm, hmm⟩ : ∃ mm : Nat, Tmx.bindsAt k j = (mm : Int) := ⟨(Tmx.bindsAt k j).toNat, by have := bindsAt_bd k j; omega⟩
      have hmm2 : mm ≤ 2 := by have := bindsAt_bd k j; omega
      have hmore : more ((shpL k).drop j) = mm := by have := more_eq hk hlt; omega
      have hcell : wr.cell? ⟨g, j, none⟩ = some (.int .i64 (Tmx.bindsAt k j)) := by
        rw [World.cell?_of_block (w := w1) (by rw [hgr]; exact hgb.symm)]
        exact HGC.out j hlt
      rw [hmm] at hcell
      have hlt' := lookF_at j f 0 hdr hlF
      rw [Nat.zero_add, hmm] at hlt'
      have hsz := size_at j f hdr
      have HS2 : Hid (s' ++ ((if (decide (0 < j ∨ k ≠ 5)) = true then [32] else []) ++ (xaft (xsOf mm ns.length) ++ (ppT ds (ns ++ xsOf mm ns.length) k' n' lf ++ ppF ds (drop (j + 1) f) ((shpL k).drop (j + 1)) ns true))) = X) := by
        have h2 := HS.out
        rw [ppF_first ds hdr, hmore, List.tail_drop] at h2
        exact h2
      have hXl2 : s'.length + 1 + (xaft (xsOf mm ns.length)).length + (ppT ds (ns ++ xsOf mm ns.length) k' n' lf).length ≤ X.length + 1 := by
        rw [← HS2.out]
        simp
        omega
      clear HS hmore hmm
      by_cases h0 : j = 0
      · subst h0
        rw [Nat.zero_mul, Nat.add_zero] at e0 e1 e2
        cases t5 : (k != 5)
        · have hfl : ¬ (decide (0 < 0 ∨ k ≠ 5)) = true := by have : k = 5 := by simpa using t5
                                                             simp [this]
          have HAC : Hid (Calls Tryd.prog 101 #[.pointer (some ⟨b, 0, none⟩), .agg #[.int .i64 k', .int .i64 n', .slice q (len lf) cap'], .int .i64 (mm : Int)] wr (WrPost w0.heap.size b ds wr ((l ++ s') ++ (xaft (xsOf mm ns.length) ++ ppT ds (ns ++ xsOf mm ns.length) k' n' lf)) ns)) :=
            warg_any w0 b ds m H mm hmm2 lf k' n' q cap' wr (l ++ s') ns bv' (deep + 1) (by omega) hsq (by rw [Int.natCast_add]; exact hlt') (by omega) (by rw [Int.natCast_add]; omega) hS hbw (by simp; omega)
          go_wp2_with fail
          refine HAC.out.mono ?_
          clear HAC
          rintro e w5 ⟨⟨v5, rfl⟩, ⟨bv5, hS5⟩, kp5⟩
          have bx5 := kp5.box hbx
          have hg5 := kp5.oth g gcs 3 gfr hgr (by decide) (by decide) (by decide)
          go_wp2_with fail
          go_roundg ((shpL k).length - (0 + 1))
          case measure => omega
          case rel => exact ⟨0 + 1, s' ++ (xaft (xsOf mm ns.length) ++ ppT ds (ns ++ xsOf mm ns.length) k' n' lf), bv5, rfl, hlt, by go_num, by rw [← List.append_assoc]; simpa using hS5, kp.trans kp5, bx5, hg5, by
            have h3 := HS2.out
            rw [if_neg hfl] at h3
            show _ ++ ppF ds (drop (0 + 1) f) ((shpL k).drop (0 + 1)) ns (decide (0 < 0 + 1 ∨ k ≠ 5)) = X
            rw [← h3, decide_eq_true (show 0 < 0 + 1 ∨ k ≠ 5 from Or.inl (by omega))]
            simp⟩
        · have hfl : (decide (0 < 0 ∨ k ≠ 5)) = true := by have : k ≠ 5 := by simpa using t5
                                                           simp [this]
          have HWB : Hid (Calls Tryd.prog 100 #[.pointer (some ⟨b, 0, none⟩), .int .u8 32] wr fun e w' => (∃ v, e = .returned v) ∧ WS w0.heap.size b w' ((l ++ s') ++ [32]) ns ds bv' ∧ KP w0.heap.size wr w') := writeByte_any hS 32 (by simp; omega)
          go_wp2_with fail
          refine HWB.out.mono ?_
          clear HWB
          rintro e w4 ⟨⟨v4, rfl⟩, hS4, kp4⟩
          have bx4 := kp4.box hbx
          have hg4 := kp4.oth g gcs 3 gfr hgr (by decide) (by decide) (by decide)
          have hbw4 : Below w0.heap.size w0 w4 := hbw.trans (kp4.below hbw.size)
          have e0' : w4.cell? ⟨bb, o, none⟩ = some (.int .i64 k') := by rw [World.cell?_of_block (w := wr) (kp4.low bb hbb (by have := hbw.size; omega))]; exact e0
          have e1' : w4.cell? ⟨bb, o + 1, none⟩ = some (.int .i64 n') := by rw [World.cell?_of_block (w := wr) (kp4.low bb hbb (by have := hbw.size; omega))]; exact e1
          have e2' : w4.cell? ⟨bb, o + 2, none⟩ = some (.slice q (len lf) cap') := by rw [World.cell?_of_block (w := wr) (kp4.low bb hbb (by have := hbw.size; omega))]; exact e2
          clear hcell x0 x1 x2 u0 u1 u2 e0 e1 e2
          obtain ⟨x0, x1, x2, u0, u1, u2⟩ := bx4.facts
          have HAC : Hid (Calls Tryd.prog 101 #[.pointer (some ⟨b, 0, none⟩), .agg #[.int .i64 k', .int .i64 n', .slice q (len lf) cap'], .int .i64 (mm : Int)] w4 (WrPost w0.heap.size b ds w4 (((l ++ s') ++ [32]) ++ (xaft (xsOf mm ns.length) ++ ppT ds (ns ++ xsOf mm ns.length) k' n' lf)) ns)) :=
            warg_any w0 b ds m H mm hmm2 lf k' n' q cap' w4 ((l ++ s') ++ [32]) ns bv' (deep + 1) (by omega) hsq (by rw [Int.natCast_add]; exact hlt') (by omega) (by rw [Int.natCast_add]; omega) hS4 hbw4 (by simp; omega)
          go_wp2_with fail
          refine HAC.out.mono ?_
          clear HAC
          rintro e w5 ⟨⟨v5, rfl⟩, ⟨bv5, hS5⟩, kp5⟩
          have bx5 := kp5.box bx4
          have hg5 := kp5.oth g gcs 3 gfr hg4 (by decide) (by decide) (by decide)
          go_wp2_with fail
          go_roundg ((shpL k).length - (0 + 1))
          case measure => omega
          case rel => exact ⟨0 + 1, s' ++ [32] ++ (xaft (xsOf mm ns.length) ++ ppT ds (ns ++ xsOf mm ns.length) k' n' lf), bv5, rfl, hlt, by go_num, by rw [← List.append_assoc]; simpa using hS5, (kp.trans kp4).trans kp5, bx5, hg5, by
            have h3 := HS2.out
            rw [if_pos hfl] at h3
            show _ ++ ppF ds (drop (0 + 1) f) ((shpL k).drop (0 + 1)) ns (decide (0 < 0 + 1 ∨ k ≠ 5)) = X
            rw [← h3, decide_eq_true (show 0 < 0 + 1 ∨ k ≠ 5 from Or.inl (by omega))]
            simp⟩
      · have hfl : (decide (0 < j ∨ k ≠ 5)) = true := decide_eq_true (Or.inl (by omega))
        have hj0 : 0 < j := by omega
        have HWB : Hid (Calls Tryd.prog 100 #[.pointer (some ⟨b, 0, none⟩), .int .u8 32] wr fun e w' => (∃ v, e = .returned v) ∧ WS w0.heap.size b w' ((l ++ s') ++ [32]) ns ds bv' ∧ KP w0.heap.size wr w') := writeByte_any hS 32 (by simp; omega)
        go_wp2_with fail
        refine HWB.out.mono ?_
        clear HWB
        rintro e w4 ⟨⟨v4, rfl⟩, hS4, kp4⟩
        have bx4 := kp4.box hbx
        have hg4 := kp4.oth g gcs 3 gfr hgr (by decide) (by decide) (by decide)
        have hbw4 : Below w0.heap.size w0 w4 := hbw.trans (kp4.below hbw.size)
        have e0' : w4.cell? ⟨bb, o + j * 3, none⟩ = some (.int .i64 k') := by rw [World.cell?_of_block (w := wr) (kp4.low bb hbb (by have := hbw.size; omega))]; exact e0
        have e1' : w4.cell? ⟨bb, o + j * 3 + 1, none⟩ = some (.int .i64 n') := by rw [World.cell?_of_block (w := wr) (kp4.low bb hbb (by have := hbw.size; omega))]; exact e1
        have e2' : w4.cell? ⟨bb, o + j * 3 + 2, none⟩ = some (.slice q (len lf) cap') := by rw [World.cell?_of_block (w := wr) (kp4.low bb hbb (by have := hbw.size; omega))]; exact e2
        clear hcell x0 x1 x2 u0 u1 u2 e0 e1 e2
        obtain ⟨x0, x1, x2, u0, u1, u2⟩ := bx4.facts
        have HAC : Hid (Calls Tryd.prog 101 #[.pointer (some ⟨b, 0, none⟩), .agg #[.int .i64 k', .int .i64 n', .slice q (len lf) cap'], .int .i64 (mm : Int)] w4 (WrPost w0.heap.size b ds w4 (((l ++ s') ++ [32]) ++ (xaft (xsOf mm ns.length) ++ ppT ds (ns ++ xsOf mm ns.length) k' n' lf)) ns)) :=
          warg_any w0 b ds m H mm hmm2 lf k' n' q cap' w4 ((l ++ s') ++ [32]) ns bv' (deep + 1) (by omega) hsq (by rw [Int.natCast_add]; exact hlt') (by omega) (by rw [Int.natCast_add]; omega) hS4 hbw4 (by simp; omega)
        go_wp2_with fail
        refine HAC.out.mono ?_
        clear HAC
        rintro e w5 ⟨⟨v5, rfl⟩, ⟨bv5, hS5⟩, kp5⟩
        have bx5 := kp5.box bx4
        have hg5 := kp5.oth g gcs 3 gfr hg4 (by decide) (by decide) (by decide)
        go_wp2_with fail
        go_roundg ((shpL k).length - (j + 1))
        case measure => omega
        case rel => exact ⟨j + 1, s' ++ [32] ++ (xaft (xsOf mm ns.length) ++ ppT ds (ns ++ xsOf mm ns.length) k' n' lf), bv5, rfl, hlt, by go_num, by rw [← List.append_assoc]; simpa using hS5, (kp.trans kp4).trans kp5, bx5, hg5, by
          have h3 := HS2.out
          rw [if_pos hfl] at h3
          show _ ++ ppF ds (drop (j + 1) f) ((shpL k).drop (j + 1)) ns (decide (0 < j + 1 ∨ k ≠ 5)) = X
          rw [← h3, decide_eq_true (show 0 < j + 1 ∨ k ≠ 5 from Or.inl (by omega))]
          simp⟩
    · obtain rfl : j = (shpL k).length := by omega
      have HSX : Hid (s' = X) := by
        have h2 := HS.out
        rw [← HLF.out, drop_len, ppF, List.append_nil] at h2
        exact h2
      clear HS
      have HWB : Hid (Calls Tryd.prog 100 #[.pointer (some ⟨b, 0, none⟩), .int .u8 41] wr fun e w' => (∃ v, e = .returned v) ∧ WS w0.heap.size b w' ((l ++ s') ++ [41]) ns ds bv' ∧ KP w0.heap.size wr w') := writeByte_any hS 41 (by rw [HSX.out]; simp; omega)
      go_wp2_with fail
      refine HWB.out.mono ?_
      clear HWB
      rintro e w4 ⟨⟨v4, rfl⟩, hS4, kp4⟩
      go_wp2_with fail
      go_end0
      refine ⟨⟨_, rfl⟩, ⟨bv', ?_⟩, kp.trans kp4⟩
      rw [HSX.out, List.append_assoc] at hS4
      exact hS4
end Go.Proofs.YtcgpjihfligdbaaDoor
