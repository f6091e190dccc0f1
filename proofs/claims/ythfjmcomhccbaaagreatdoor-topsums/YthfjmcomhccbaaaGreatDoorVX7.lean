/-
  The program's reader: what is behind a bracket.
-/
import Derived.Test.YthfjmcomhccbaaaGreatDoorVX6
namespace Go.Proofs.YthfjmcomhccbaaaGreatDoor
open Go.RowKit Tmx
set_option maxRecDepth 60000

theorem argsK_cons (T : List (List UInt8) → List (List UInt8) → GotK) (c : UInt8) (sh : List UInt8) (A : F) (ns ws : List (List UInt8)) : argsK T (c :: sh) A ns ws = andX (argK T (c.toNat - 48) ns ws) fun x => argsK T sh (snoc A x.1) ns x.2 := by
  rw [argsK]
  unfold argK
  cases namesK (c.toNat - 48) ns ws with
  | error x => rfl
  | ok p =>
    rw [andX_ok, andX_ok]
    split
    · rfl
    · rfl
theorem argK_suf {T : List (List UInt8) → List (List UInt8) → GotK} (hT : ∀ ns ws x r, T ns ws = .ok (x, r) → r <:+ ws) {m : Nat} {ns ws : List (List UInt8)} {x : Int × Int × F} {r : List (List UInt8)} (h : argK T m ns ws = .ok (x, r)) : r <:+ ws := by
  unfold argK at h
  cases hN : namesK m ns ws with
  | error y => rw [hN, andX_error] at h; cases h
  | ok p =>
    rw [hN, andX_ok] at h
    split at h
    · cases h
    · exact (hT _ _ _ _ h).trans (namesK_suf m ns ws p hN)
theorem argsK_suf {T : List (List UInt8) → List (List UInt8) → GotK} (hT : ∀ ns ws x r, T ns ws = .ok (x, r) → r <:+ ws) : ∀ (sh : List UInt8) (A : F) (ns ws : List (List UInt8)) (B : F) (r : List (List UInt8)), argsK T sh A ns ws = .ok (B, r) → r <:+ ws
  | [], _, _, _, _, _, h => by rw [argsK] at h; cases h; exact List.suffix_refl _
  | c :: sh, A, ns, ws, B, r, h => by
    rw [argsK_cons] at h
    cases hN : argK T (c.toNat - 48) ns ws with
    | error y => rw [hN, andX_error] at h; cases h
    | ok p =>
      rw [hN, andX_ok] at h
      exact (argsK_suf hT sh _ _ _ _ _ h).trans (argK_suf hT hN)
theorem termK_suf (ds : List (List UInt8)) : ∀ (n : Nat) (ns ws : List (List UInt8)) (x : Int × Int × F) (r : List (List UInt8)), termK ds n ns ws = .ok (x, r) → r <:+ ws
  | 0, _, _, _, _, h => by rw [termK] at h; cases h
  | n + 1, _, [], _, _, h => by rw [termK] at h; cases h
  | n + 1, ns, a :: ws, x, r, h => by
    rw [termK] at h
    split at h
    · cases hA : argsK (termK ds n) (shpL (headKT ws)) .nil ns (headTT ws) with
      | error y => rw [hA] at h; cases h
      | ok p =>
        obtain ⟨B, us⟩ := p
        have h1 := argsK_suf (termK_suf ds n) _ _ _ _ _ _ hA
        rw [hA] at h
        cases us with
        | nil => cases h
        | cons u us =>
          rw [closeK] at h
          split at h
          · cases h
            exact (List.suffix_cons _ _).trans (h1.trans ((headTT_suf ws).trans (List.suffix_cons _ _)))
          · cases h
    · unfold atomK at h
      split at h
      · cases h
        exact List.suffix_cons _ _
      · cases h

set_option maxRecDepth 60000 in
set_option maxHeartbeats 8000000 in
theorem bracket_any (ds : List (List UInt8)) (n : Nat) (H : Hid (TermP ds n)) (lo r : Nat) (w : World) (ws ns : List (List UInt8)) (v : Value) (h : RS lo r w ws ns ds v) (hsh : Short ws) (hns : ns.length ≤ 8) :
    Calls Tryz.prog 94 #[.pointer (some ⟨r, 0, none⟩), .int .i64 (24 - (n : Int))] w (TermPost lo r ds ns w v (closeK (headKT ws) (argsK (termK ds n) (shpL (headKT ws)) .nil ns (headTT ws)))) := by
  have hr := h.lt
  have hlor := h.lor
  have hvl : ∀ b, v.ownBlock = some b → b < w.heap.size := fun b e => (h.ownlt b e).2
  have hb0 : Below w.heap.size w (w.alloc (.cells #[.int .i64 0, .int .i64 0, .slice none 0 0] 30)) := (Below.refl _ _).alloc (Nat.le_refl _) _
  have bx0 := Box.new w (.int .i64 0) (.int .i64 0) (.slice none 0 0)
  have hz0 : (w.alloc (.cells #[.int .i64 0, .int .i64 0, .slice none 0 0] 30)).heap.size = w.heap.size + 1 := by simp
  have h0 := h.below hb0
  obtain ⟨K, hK⟩ : ∃ K, headKT ws = K := ⟨_, rfl⟩
  have hK1 := (headKT_kind ws).1
  have hsh0 : Short (headTT ws) := hsh.suf (headTT_suf ws)
  have HHD : Hid (Calls Tryz.prog 117 #[.pointer (some ⟨r, 0, none⟩)] (w.alloc (.cells #[.int .i64 0, .int .i64 0, .slice none 0 0] 30)) fun e w' => e = .returned (.int .i64 (headKT ws)) ∧ RS lo r w' (headTT ws) ns ds v ∧ Kept r (w.alloc (.cells #[.int .i64 0, .int .i64 0, .slice none 0 0] 30)) w') := head_any lo r _ ws ns ds v h0
  rw [hK] at HHD hK1 ⊢
  clear hK
  obtain ⟨X, hX⟩ : ∃ X, argsK (termK ds n) (shpL K) .nil ns (headTT ws) = X := ⟨_, rfl⟩
  have HX : Hid (argsK (termK ds n) (shpL K) .nil ns (headTT ws) = X) := hX
  rw [hX]
  clear hX
  obtain ⟨res, hres⟩ : ∃ res, closeK K X = res := ⟨_, rfl⟩
  have HR : Hid (closeK K X = res) := hres
  rw [hres]
  clear hres
  generalize headTT ws = us at *
  clear hsh
  go_enter Tryz.func94, Tryz.ntmps94
  go_wp2_with fail
  refine HHD.out.mono ?_
  clear HHD
  rintro e w1 ⟨rfl, hS1, hk1⟩
  have hz1 := hk1.size
  have bx1 := hk1.box (by omega) bx0
  have hkb1 : KB r v w w1 := (KB.of_below hb0).trans (KB.of_kept hk1 (v := v)) (OwnNew.refl _ _)
  clear bx0 h0 hk1
  go_wp2_with fail
  have hbT : Below w1.heap.size w1 (w1.alloc (.cells #[.int .i64 K, .int .i64 0, .slice none 0 0] 30)) := (Below.refl _ _).alloc (Nat.le_refl _) _
  have btT := Box.new w1 (.int .i64 K) (.int .i64 0) (.slice none 0 0)
  have hzT : (w1.alloc (.cells #[.int .i64 K, .int .i64 0, .slice none 0 0] 30)).heap.size = w1.heap.size + 1 := by simp
  refine (binds_new K _ hK1).mono ?_
  rintro e w3 ⟨⟨g, hg, rfl, hgc⟩, hb3⟩
  have hz3 := hb3.size
  rw [hzT] at hz3 hg
  have hb13 : Below w1.heap.size w1 w3 := hbT.trans (hb3.mono (by omega))
  have hS3 := hS1.below hb13
  have bx3 := bx1.below hb13
  have bt3 := btT.below hb3
  have hkb3 : KB r v w w3 := hkb1.trans (KB.of_below hb13 (v := v)) (OwnNew.refl _ _)
  have hL4 := shpL_len K
  have hgl : 0 < (shpL K).length → g < w3.heap.size := fun h => World.block_lt_of_cell? w3 ⟨g, 0, none⟩ (hgc 0 h)
  clear hS1 bx1 btT hkb1 hb13 hbT hb3
  have HGC : Hid (∀ i, i < (shpL K).length → w3.cell? ⟨g, i, none⟩ = some (.int .i64 (Tmx.bindsAt K i))) := hgc
  clear hgc
  go_wp2_with fail
  go_loopg [26] (shpL K).length (fun gg ix wr => ∃ (j : Nat) (ws' : List (List UInt8)) (v' : Value) (A : F) (pv : Option Addr) (cv : Nat), gg = (shpL K).length - j ∧ j ≤ (shpL K).length ∧ ix = .int .i64 (j : Int) ∧ RS lo r wr ws' ns ds v' ∧ Short ws' ∧ KB r v w wr ∧ OwnNew w3 v v' ∧
    Box wr w.heap.size (.int .i64 0) (.int .i64 0) (.slice none 0 0) ∧ Box wr w1.heap.size (.int .i64 K) (.int .i64 0) (.slice pv (len A) cv) ∧ ArgsR w3.heap.size v' wr (.slice pv (len A) cv) A ∧ Hid (len A = j) ∧ Hid (∀ i, i < (shpL K).length → wr.cell? ⟨g, i, none⟩ = some (.int .i64 (Tmx.bindsAt K i))) ∧ w3.heap.size ≤ wr.heap.size ∧ Hid (argsK (termK ds n) ((shpL K).drop j) A ns ws' = X))
  case atStart => exact ⟨0, us, v, .nil, none, 0, by simp, Nat.zero_le _, rfl, hS3, hsh0, hkb3, OwnNew.refl _ _, bx3, bt3, ArgsR.nil _ _ _, rfl, HGC, Nat.le_refl _, by show argsK _ (List.drop 0 _) _ _ _ = X; simpa using HX.out⟩
  case round =>
    clear HX hS3 hsh0 hkb3 bx3 bt3 HGC
    obtain ⟨j, ws', v', A, pv, cv, rfl, hj, rfl, hS, hsh, hkb, hon, hbx, hbt, hAR, HLA, HGC, hz, HXj⟩ := hrel
    have hon0 : OwnNew w v v' := hon.mono (by omega)
    have hvo : ∀ b, w.heap.size ≤ b → b < w3.heap.size → v'.ownBlock ≠ some b := fun b h1 h2 => hon.ne h2 (fun e => by have := hvl b e; omega)
    have hlA : len A ≤ 4 := by have := HLA.out; omega
    have h30 : 0 < w3.heap.size := by omega
    have hrl3 : r < w3.heap.size := by omega
    by_cases hlt : j < (shpL K).length
    · obtain ⟨c, hc⟩ : ∃ c, (shpL K)[j] = c := ⟨_, rfl⟩
      have hcb : (c.toNat : Int) = 48 + Tmx.bindsAt K j := by rw [← hc]; exact shp_byte K hK1 j hlt
      have hbd := bindsAt_bd K j
      obtain ⟨m, hm⟩ : ∃ m : Nat, Tmx.bindsAt K j = (m : Int) := ⟨(Tmx.bindsAt K j).toNat, by omega⟩
      have hm2 : m ≤ 2 := by omega
      have hcm : c.toNat - 48 = m := by omega
      have hcell := HGC.out j hlt
      rw [hm] at hcell
      have hXc : Hid (andX (argK (termK ds n) m ns ws') (fun x => argsK (termK ds n) ((shpL K).drop (j + 1)) (snoc A x.1) ns x.2) = X) := by
        have h1 := HXj.out
        rw [List.drop_eq_getElem_cons hlt, hc, argsK_cons, hcm] at h1
        exact h1
      have hglt := hgl (by omega)
      clear HXj hc hcb hbd hm hcm hgl
      have HAC : Hid (Calls Tryz.prog 119 #[.pointer (some ⟨r, 0, none⟩), .int .i64 (m : Int), .int .i64 (24 - (n : Int))] wr (TermPost lo r ds ns wr v' (argK (termK ds n) m ns ws'))) := targ_any ds n H lo r wr ws' ns v' hS hsh hns m hm2
      go_wp2_with fail
      clear hcell
      refine HAC.out.mono ?_
      clear HAC
      rintro e w4 ⟨hkb4, ws4, ns4, v4, hS4, hon4, hres4⟩
      have hz4 := hkb4.size
      have hrl4 := hS4.lt
      have bx4 := hkb4.box (by omega) (hvo _ (Nat.le_refl _) (by omega)) hbx
      have bt4 := hkb4.box (by omega) (hvo _ (by omega) (by omega)) hbt
      have hA4 := hAR.along hkb4 hon4 hrl3
      have hwlt := bx4.lt
      have hwlt1 := bt4.lt
      have hgn : v'.ownBlock ≠ some g := hvo g (by omega) hglt
      have HG4 : Hid (∀ i, i < (shpL K).length → w4.cell? ⟨g, i, none⟩ = some (.int .i64 (Tmx.bindsAt K i))) := fun i hi => by
        rw [World.cell?_of_block (w := wr) (hkb4.block g (by omega) (by omega) hgn)]
        exact HGC.out i hi
      have hkbT := hkb.trans hkb4 hon0
      have honT : OwnNew w3 v v4 := hon.trans hon4 (by omega)
      have honT0 : OwnNew w v v4 := honT.mono (by omega)
      have hvo4 : ∀ b, w.heap.size ≤ b → b < w3.heap.size → v4.ownBlock ≠ some b := fun b h1 h2 => honT.ne h2 (fun e => by have := hvl b e; omega)
      have hAR0 := hAR
      clear hS hkb hbx hbt hAR HGC
      cases hAK : argK (termK ds n) m ns ws' with
      | error y =>
        rw [hAK] at hres4
        obtain ⟨rfl, hy0, hln⟩ := hres4
        have HE : Hid (res = .error y) := by
          have h1 := hXc.out
          rw [hAK, andX_error] at h1
          rw [← HR.out, ← h1]
          rfl
        clear hXc hAK HR
        have ty : (y != 0) = true := by simpa using hy0
        obtain ⟨hF, kF⟩ := fin_box hS4 hkbT hr (hvo4 _ (Nat.le_refl _) (by omega)) (.int .i64 0) (.int .i64 0) (.slice none 0 0)
        obtain ⟨b0, b1, b2, g0, g1, g2⟩ := bx4.facts
        have bx5 := bx4.set (.int .i64 0) (.int .i64 0) (.slice none 0 0)
        go_wp2_with fail
        have bx6 := bx5.alloc (.cells #[.int .i64 0, .int .i64 0, .slice none 0 0] 30)
        obtain ⟨d0, d1, d2, _, _, _⟩ := bx6.facts
        have hbA : Below _ _ (World.alloc _ (.cells #[.int .i64 0, .int .i64 0, .slice none 0 0] 30)) := (Below.refl _ (((w4.setCell ⟨w.heap.size, 0, none⟩ (.int .i64 0)).setCell ⟨w.heap.size, 1, none⟩ (.int .i64 0)).setCell ⟨w.heap.size, 2, none⟩ (.slice none 0 0))).alloc (Nat.le_refl _) _
        refine bodyPost_ret (v := .tuple #[.agg #[.int .i64 0, .int .i64 0, .slice none 0 0], .int .i64 y]) (by simp [results, Tryz.results94, go_sem, d0, d1, d2]) rfl ?_
        rw [HE.out]
        exact ⟨kF.trans (KB.of_below hbA (v := v)) (OwnNew.refl _ _), _, _, _, hF.below hbA, honT0, rfl, hy0, hln⟩
      | ok tr =>
        obtain ⟨t, rest⟩ := tr
        rw [hAK] at hres4
        obtain ⟨rfl, rfl, p, ⟨cap, hcap⟩, hve, hsl⟩ := hres4
        dsimp only at hve
        subst hve
        have HCAP := (show Hid _ from hcap)
        clear hcap
        have hsh4 : Short ws4 := hsh.suf (argK_suf (termK_suf ds n) hAK)
        have HX4 : Hid (argsK (termK ds n) ((shpL K).drop (j + 1)) (snoc A t) ns4 ws4 = X) := by
          have h1 := hXc.out
          rw [hAK, andX_ok] at h1
          exact h1
        clear hXc hAK
        have hbA : Below w4.heap.size w4 (w4.alloc (.cells #[.int .i64 t.1, .int .i64 t.2.1, .slice p (len t.2.2) cap] 30)) := (Below.refl _ _).alloc (Nat.le_refl _) _
        have hzA : (w4.alloc (.cells #[.int .i64 t.1, .int .i64 t.2.1, .slice p (len t.2.2) cap] 30)).heap.size = w4.heap.size + 1 := by simp
        have hS5 := hS4.below hbA
        have bx5 := bx4.below hbA
        have bt5 := bt4.below hbA
        have ba5 := Box.new w4 (.int .i64 t.1) (.int .i64 t.2.1) (.slice p (len t.2.2) cap)
        have hA5 := hA4.below hbA h30
        have hownA : ∀ b, (Value.slice pv (len A) cv).ownBlock = some b → b < wr.heap.size := fun b e => by
          obtain ⟨xs, h1, _⟩ := hAR0
          exact (h1.lt b e).2
        have hL5 : SlQ (fun b => w3.heap.size ≤ b ∧ (Value.slice pv (len A) cv).ownBlock ≠ some b ∧ v4.ownBlock ≠ some b) (w4.alloc (.cells #[.int .i64 t.1, .int .i64 t.2.1, .slice p (len t.2.2) cap] 30)) p t.2.2 :=
          hsl.along fun b o u hq hu => ⟨⟨by have := hq.1; omega, fun e => by have := hownA b e; have := hq.1; omega, hq.2⟩, below_some hbA b o u hu⟩
        obtain ⟨g6, cap6, w6, hrun, hA6, ho6, ht6, hu6, hz6, hbk6⟩ := append_termR _ w3.heap.size v4 (.slice pv (len A) cv) A hA5 1 t.1 t.2.1 p cap t.2.2 HCAP.out hL5 (fun b e => (hS5.ownlt b e).2) (by omega) (by omega) h30
        rw [hzA] at hz6 hbk6 hrun
        have HRP : Hid ((Builtin.append_ #[28, 28] 28 #[.slice pv (len A) cv, .slice (some ⟨w4.heap.size + 1, 0, none⟩) 1 1]).run Tryz.prog ((w4.alloc (.cells #[.int .i64 t.1, .int .i64 t.2.1, .slice p (len t.2.2) cap] 30)).alloc (.cells #[.int .i64 t.1, .int .i64 t.2.1, .slice p (len t.2.2) cap] 30)) = .ok (.slice (some ⟨g6, 0, none⟩) (len A + 1) cap6) w6) := hrun
        clear hrun
        have hown1 : ∀ b, b < w3.heap.size → (Value.slice pv (len A) cv).ownBlock ≠ some b := fun b hb e => by
          obtain ⟨xs, h1, _⟩ := hAR0
          have := (h1.lt b e).1
          omega
        have hbk : ∀ b, b < w3.heap.size → w6.heap[b]? = w4.heap[b]? := fun b hb => by
          rw [hbk6 b (by omega) (hown1 b hb)]
          exact Below.heap_alloc _ _ _ (by omega)
        have bt6 : Box w6 w1.heap.size (.int .i64 K) (.int .i64 0) (.slice pv (len A) cv) := bt4.of_block (hbk _ (by omega))
        have bx6 : Box w6 w.heap.size (.int .i64 0) (.int .i64 0) (.slice none 0 0) := bx4.of_block (hbk _ (by omega))
        obtain ⟨q0, q1, q2, y0, y1, y2⟩ := bt6.facts
        obtain ⟨b0, b1, b2, g0, g1, g2⟩ := bt4.facts
        have hlen6 := len_snoc A t
        have hA7 := hA6.set (x := ⟨w1.heap.size, 2, none⟩) (by show w1.heap.size < _; omega) (.slice (some ⟨g6, 0, none⟩) (len A + 1) cap6)
        have bt7 := bt6.set2 (.slice (some ⟨g6, 0, none⟩) (len A + 1) cap6)
        have bx7 := bx6.setOther (x := ⟨w1.heap.size, 2, none⟩) (by show w.heap.size ≠ w1.heap.size; omega) (.slice (some ⟨g6, 0, none⟩) (len A + 1) cap6)
        have hdis : ∀ b, v4.ownBlock = some b → (Value.slice pv (len A) cv).ownBlock ≠ some b := fun b e e2 => by
          obtain ⟨_, _, _, h3⟩ := hA4
          exact h3 b e2 e
        have hS6 : RS lo r w6 ws4 ns4 ds v4 := hS4.along (hbk r (by omega)) (fun b e => by
          rw [hbk6 b (by have := (hS4.ownlt b e).2; omega) (hdis b e)]
          exact Below.heap_alloc _ _ _ (hS4.ownlt b e).2) (fun b hb _ => hbk b (by omega))
        have hS7 := hS6.setO (x := ⟨w1.heap.size, 2, none⟩) (by show w1.heap.size ≠ r; omega) (hvo4 _ (by show w.heap.size ≤ w1.heap.size; omega) (by show w1.heap.size < _; omega)) (by show lo ≤ w1.heap.size; omega) (.slice (some ⟨g6, 0, none⟩) (len A + 1) cap6)
        have hkb7 : KB r v w (w6.setCell ⟨w1.heap.size, 2, none⟩ (.slice (some ⟨g6, 0, none⟩) (len A + 1) cap6)) :=
          ⟨ho6.trans hkbT.os, ht6.trans hkbT.tape, hu6.trans hkbT.output, by have := hkbT.size; simp [World.setCell]; omega, fun b hb hbr hbv => by
            rw [Below.heap_setCell _ _ _ _ (by show b ≠ w1.heap.size; omega), hbk b (by omega)]
            exact hkbT.block b hb hbr hbv⟩
        have HG7 : Hid (∀ i, i < (shpL K).length → (w6.setCell ⟨w1.heap.size, 2, none⟩ (.slice (some ⟨g6, 0, none⟩) (len A + 1) cap6)).cell? ⟨g, i, none⟩ = some (.int .i64 (Tmx.bindsAt K i))) := fun i hi => by
          rw [World.cell?_of_block (w := w4) (by rw [Below.heap_setCell _ _ _ _ (by show g ≠ w1.heap.size; omega), hbk g (by omega)])]
          exact HG4.out i hi
        have hz7 : w3.heap.size ≤ (w6.setCell ⟨w1.heap.size, 2, none⟩ (.slice (some ⟨g6, 0, none⟩) (len A + 1) cap6)).heap.size := by simp [World.setCell]; omega
        rw [← hlen6] at hA7 bt7
        have HLE : Hid (len (snoc A t) = len A + 1) := hlen6
        clear hlen6
        clear hA5 hL5 ba5 bx5 bt5 q0 q1 y0 y1 b0 b1 g0 g1
        go_wp2_with (first | (at_builtin; refine wpList_append_run rfl _ _ 28 rfl _ _ _ rfl rfl HRP.out ?_; clear HRP) | fail)
        go_roundg ((shpL K).length - (j + 1))
        case measure => omega
        case rel =>
          rw [← HLE.out]
          rw [← HLE.out] at hS7 hkb7 bx7 HG7 hz7
          exact ⟨j + 1, ws4, v4, snoc A t, some ⟨g6, 0, none⟩, cap6, rfl, hlt, by go_num, hS7, hsh4, hkb7, honT, bx7, bt7, hA7, by rw [HLE.out, HLA.out]; rfl, HG7, hz7, HX4⟩
    · obtain rfl : j = (shpL K).length := by omega
      have HXe : Hid (X = .ok (A, ws')) := by
        have h1 := HXj.out
        rw [List.drop_length, argsK] at h1
        exact h1.symm
      have hbl := hbx.lt
      have htl := hbt.lt
      clear HXj HGC hgl
      cases ws' with
      | nil =>
        have HE : Hid (res = .error 8) := by rw [← HR.out, HXe.out]; rfl
        obtain ⟨hF, kF⟩ := fin_box hS hkb hr (hvo _ (Nat.le_refl _) (by omega)) (.int .i64 0) (.int .i64 0) (.slice none 0 0)
        go_wp2_with fail
        refine (next_none' lo r wr ns ds v' hS).mono ?_
        rintro e w4 ⟨rfl, rfl⟩
        obtain ⟨b0, b1, b2, g0, g1, g2⟩ := hbx.facts
        go_wp2_with fail
        obtain ⟨d0, d1, d2, _, _, _⟩ := (hbx.set (.int .i64 0) (.int .i64 0) (.slice none 0 0)).facts
        refine bodyPost_ret (v := .tuple #[.agg #[.int .i64 0, .int .i64 0, .slice none 0 0], .int .i64 8]) (by simp [results, Tryz.results94, go_sem, d0, d1, d2]) rfl ?_
        rw [HE.out]
        exact ⟨kF, _, _, _, hF, hon0, rfl, by decide, Nat.le_refl _⟩
      | cons x ws' =>
        go_wp2_with fail
        refine (next_some lo r wr x ws' ns ds v' hS).mono ?_
        rintro e w4 ⟨rfl, hS4, hk4⟩
        have bx4 := hk4.box (by omega) hbx
        have bt4 := hk4.box (by omega) hbt
        have hkb4 : KB r v w w4 := hkb.trans (KB.of_kept hk4 (v := v')) hon0
        have hA4 := hAR.along (KB.of_kept hk4) (OwnNew.refl _ _) hrl3
        have hz4 := hk4.size
        clear hS hbx hbt hkb hAR hk4
        obtain ⟨b0, b1, b2, g0, g1, g2⟩ := bx4.facts
        by_cases hx : x = [41]
        · have HE : Hid (res = .ok ((K, 0, A), ws')) := by rw [← HR.out, HXe.out, closeK, if_pos hx]; rfl
          obtain ⟨hF, kF⟩ := fin_box hS4 hkb4 hr (hvo _ (Nat.le_refl _) (by omega)) (.int .i64 K) (.int .i64 0) (.slice pv (len A) cv)
          have hsl := hA4.slQ
          have HCV := (show Hid _ from hA4.cap)
          subst hx
          obtain ⟨y0, y1, y2, z0, z1, z2⟩ := bt4.facts
          go_wp2_with fail
          obtain ⟨d0, d1, d2, _, _, _⟩ := (bx4.set (.int .i64 K) (.int .i64 0) (.slice pv (len A) cv)).facts
          refine bodyPost_ret (v := .tuple #[.agg #[.int .i64 K, .int .i64 0, .slice pv (len A) cv], .int .i64 0]) (by simp [results, Tryz.results94, go_sem, d0, d1, d2]) rfl ?_
          rw [HE.out]
          refine ⟨kF, _, _, _, hF, hon0, rfl, rfl, pv, ⟨cv, HCV.out⟩, rfl, ?_⟩
          refine (SlQ.three hsl (B := w.heap.size) (by rintro ⟨h1, _⟩; omega) _ _ _).along fun b o u hq hu => ⟨⟨by have := hq.1; omega, hq.2⟩, hu⟩
        · have HE : Hid (res = .error 2) := by rw [← HR.out, HXe.out, closeK, if_neg hx]; rfl
          have tx : (x == [41]) = false := by simpa using hx
          obtain ⟨hF, kF⟩ := fin_box hS4 hkb4 hr (hvo _ (Nat.le_refl _) (by omega)) (.int .i64 0) (.int .i64 0) (.slice none 0 0)
          go_wp2_with fail
          obtain ⟨d0, d1, d2, _, _, _⟩ := (bx4.set (.int .i64 0) (.int .i64 0) (.slice none 0 0)).facts
          refine bodyPost_ret (v := .tuple #[.agg #[.int .i64 0, .int .i64 0, .slice none 0 0], .int .i64 2]) (by simp [results, Tryz.results94, go_sem, d0, d1, d2]) rfl ?_
          rw [HE.out]
          exact ⟨kF, _, _, _, hF, hon0, rfl, by decide, Nat.le_refl _⟩
end Go.Proofs.YthfjmcomhccbaaaGreatDoor
