/-
  The program's Parse.
-/
import Derived.Test.YtcgpjihfligdbaaDoorX8
import Derived.Test.YtcgpjihfligdbaaDoorPlainS
namespace Go.Proofs.YtcgpjihfligdbaaDoor
open Go.RowKit Tmx
set_option maxRecDepth 60000

theorem toksN_short : ∀ (n : Nat) (l : List UInt8), ∀ x ∈ toksN n l, x.length ≤ l.length
  | 0, _, x, hx => by simp [toksN] at hx
  | n + 1, l, x, hx => by
    rw [toksN] at hx
    split at hx
    · simp at hx
    · rcases List.mem_cons.1 hx with rfl | h
      · exact Nat.le_trans (peek_len l) (skip_len l)
      · refine Nat.le_trans (toksN_short n _ x h) ?_
        unfold restW
        rw [List.length_drop]
        exact Nat.le_trans (Nat.sub_le _ _) (skip_len l)
theorem tk_short {l : List UInt8} (hl : l.length ≤ 1500) : Short (tk [] l) := by
  rw [← toks_eq]
  exact fun x hx => ⟨toks_full l x hx, Nat.le_trans (toksN_short _ l x hx) hl⟩
theorem NamesIn.tx {lo : Nat} {w : World} {p : Option Addr} {n cap : Nat} {ns : List (List UInt8)} (h : NamesIn lo w (.slice p n cap) ns) : Tx w.heap.size w p ns ∧ ns.length ≤ cap := by
  have hown := h.lt
  obtain ⟨g1, g2⟩ := h
  rcases g2 with ⟨e, h0⟩ | ⟨g, cap', cur, e, hg, hh, hn, hm, hs, ht⟩
  · have : ns = [] := List.eq_nil_of_length_eq_zero h0
    subst this
    exact ⟨Tx.nil _ _ _, Nat.zero_le _⟩
  · obtain ⟨rfl, rfl, rfl⟩ := Value.slice.inj e
    refine ⟨⟨g, 0, fun _ => ⟨rfl, (hown g rfl).2⟩, fun i hi => ?_⟩, hn⟩
    rw [Nat.zero_add, cell_of_row w g i cur 9 (0, 0) hh]
    have : (cur.toList.take (ns.length * 1))[i]? = (ns.map fun l => Value.string ⟨l.toArray⟩)[i]? := by rw [ht]
    rw [List.getElem?_take, if_pos (by omega), List.getElem?_map] at this
    simpa [List.getD_eq_getElem?_getD, List.getElem?_eq_getElem hi] using this

theorem eq_nil_some (a : Addr) (n c : Nat) (W : World) : (binOp .eql 36 (.slice (some a) n c) (.slice none 0 0)).run Tryd.prog W = .ok (.bool false) W := by kernel_rfl
set_option maxRecDepth 60000 in
set_option maxHeartbeats 1000000 in
theorem clone_any (r : Nat) (w : World) (p : Option Addr) (c : Nat) (ns : List (List UInt8)) (hS : Strs r w p ns) (hp : p = none → c = 0) (hlen : ns.length ≤ 1000000) :
    Calls Tryd.prog 51 #[.slice p ns.length c] w fun e w' => (∃ v, e = .returned v ∧ NamesIn w.heap.size w' v ns) ∧ Below w.heap.size w w' := by
  cases p with
  | none =>
    obtain rfl : ns = [] := by
      obtain ⟨b, o, h1, _⟩ := hS
      cases ns with
      | nil => rfl
      | cons x ns => exact absurd (h1 (by simp)).1 (by simp)
    rw [hp rfl]
    clear hp hS
    simp only [List.length_nil]
    have hnil : ∀ W : World, (binOp .eql 36 (.slice none 0 0) (.slice none 0 0)).run Tryd.prog W = .ok (.bool true) W := fun _ => by kernel_rfl
    go_enter Tryd.func51, Tryd.ntmps51
    go_wp2_with fail
    go_ret
    exact ⟨⟨_, rfl, World.ownsRow_nil w _ 9 1⟩, Below.refl _ _⟩
  | some a =>
    have hne := fun W => eq_nil_some a ns.length c W
    have hB : (w.alloc (.cells #[] 9)).heap[w.heap.size]? = some (.cells #[] 9 (0, 0)) := heap_alloc_new _ _
    have hbA : Below w.heap.size w (w.alloc (.cells #[] 9)) := (Below.refl _ _).alloc (Nat.le_refl _) _
    obtain ⟨v', w', hr, hN, hg⟩ := copy_names (w.alloc (.cells #[] 9)) w.heap.size r w.heap.size (some a) c ns hB (Nat.le_refl _) (hS.kept (.of_below hbA)) (by simp) hlen (by simp) 36
    have HRP : Hid ((Builtin.append_ #[36, 36] 36 #[.slice (some ⟨w.heap.size, 0, none⟩) 0 0, .slice (some a) ns.length c]).run Tryd.prog (w.alloc (.cells #[] 9)) = .ok v' w') := hr
    have hbw : Below w.heap.size w w' := ⟨hg.os, hg.tape, hg.output, by have := hg.size; simp at this; omega, fun k hk => by rw [hg.block k (by simp; omega) (by simp; omega)]; exact Below.heap_alloc _ _ _ hk⟩
    clear hr hp hS hB hbA hg
    go_enter Tryd.func51, Tryd.ntmps51
    go_wp2_with (first | (at_builtin; refine wpList_append_run rfl _ _ 36 rfl _ _ _ rfl rfl HRP.out ?_; clear HRP) | fail)
    go_ret
    exact ⟨⟨_, rfl, hN⟩, hbw⟩
/-- What Parse answers. -/
def ParsePost (w : World) (x : (Int × Int × F) × Int) (e : Ending) (w' : World) : Prop :=
  (∃ p cap, e = .returned (.tuple #[.agg #[.int .i64 x.1.1, .int .i64 x.1.2.1, .slice p (len x.1.2.2) cap], .int .i64 x.2]) ∧ SlF w.heap.size w' p x.1.2.2) ∧ Below w.heap.size w w'

set_option maxRecDepth 60000 in
set_option maxHeartbeats 8000000 in
theorem pparse_any (w : World) (l : List UInt8) (ns ds : List (List UInt8)) (pn pd : Option Addr) (cn cd : Nat) (hn : Tx w.heap.size w pn ns) (hd : Tx w.heap.size w pd ds) (hv : Vs w.heap.size w) (hp : pn = none → cn = 0) (hl : l.length ≤ 4611686018427387904) (hn1 : ns.length ≤ 1152921504606846976) (hd1 : ds.length ≤ 1152921504606846976) :
    Calls Tryd.prog 23 #[.string ⟨l.toArray⟩, .slice pn ns.length cn, .slice pd ds.length cd] w (ParsePost w (ansK (parseK ds ns l))) := by
  have hb0 : Below w.heap.size w (w.alloc (.cells #[.int .i64 0, .int .i64 0, .slice none 0 0] 24)) := (Below.refl _ _).alloc (Nat.le_refl _) _
  have bx0 := Box.new w (.int .i64 0) (.int .i64 0) (.slice none 0 0)
  have hz0 : (w.alloc (.cells #[.int .i64 0, .int .i64 0, .slice none 0 0] 24)).heap.size = w.heap.size + 1 := by simp
  by_cases hl1 : 1500 < l.length
  · have HE : Hid (ansK (parseK ds ns l) = ((0, 0, .nil), 4)) := by unfold parseK; rw [if_pos hl1]; rfl
    go_enter Tryd.func23, Tryd.ntmps23
    go_wp2_with fail
    refine bodyPost_ret (v := .tuple #[.agg #[.int .i64 0, .int .i64 0, .slice none 0 0], .int .i64 4]) (by simp [results, Tryd.results23, go_sem]) rfl ?_
    rw [HE.out]
    exact ⟨⟨none, 0, rfl, SlF.nil _ _ _⟩, hb0⟩
  · by_cases hn8 : 8 < ns.length
    · have HE : Hid (ansK (parseK ds ns l) = ((0, 0, .nil), 5)) := by unfold parseK; rw [if_neg hl1, if_pos hn8]; rfl
      go_enter Tryd.func23, Tryd.ntmps23
      go_wp2_with fail
      refine bodyPost_ret (v := .tuple #[.agg #[.int .i64 0, .int .i64 0, .slice none 0 0], .int .i64 5]) (by simp [results, Tryd.results23, go_sem]) rfl ?_
      rw [HE.out]
      exact ⟨⟨none, 0, rfl, SlF.nil _ _ _⟩, hb0⟩
    · obtain ⟨res, hres⟩ : ∃ res, termK ds 24 ns (tk [] l) = res := ⟨_, rfl⟩
      have HP : Hid (parseK ds ns l = endK res) := by unfold parseK; rw [if_neg hl1, if_neg hn8, toks_eq, hres]; rfl
      have HRES : Hid (termK ds 24 ns (tk [] l) = res) := hres
      clear hres
      generalize parseK ds ns l = pk at HP ⊢
      have hshw : Short (tk [] l) := tk_short (by omega)
      go_enter Tryd.func23, Tryd.ntmps23
      go_wp2_with fail
      refine (words_any l _ (by omega)).mono ?_
      rintro e w1 ⟨⟨pw, cw, rfl, hW1⟩, hb1⟩
      obtain ⟨hT1, hcw⟩ := hW1.tx
      have hz1 := hb1.size
      rw [hz0] at hz1
      have hb01 : Below w.heap.size w w1 := hb0.trans (hb1.mono (by omega))
      have bx1 := bx0.below hb1
      clear hW1 hb1 bx0
      go_wp2_with fail
      refine (clone_any w1.heap.size w1 pn cn ns (Strs.of_tx (hn.along fun b _ hs => hb01.block b hs) hb01.size) hp (by omega)).mono ?_
      rintro e w2 ⟨⟨v, rfl, hN2⟩, hb2⟩
      obtain ⟨pb, cb, rfl⟩ := hN2.form
      have hz2 := hb2.size
      have hb02 : Below w.heap.size w w2 := hb01.trans (hb2.mono (by omega))
      have bx2 := bx1.below hb2
      have hbR : Below w2.heap.size w2 (w2.alloc (.cells #[.slice pw (tk [] l).length cw, .slice pb ns.length cb, .slice pd ds.length cd] 78)) := (Below.refl _ _).alloc (Nat.le_refl _) _
      have hb03 : Below w.heap.size w (w2.alloc (.cells #[.slice pw (tk [] l).length cw, .slice pb ns.length cb, .slice pd ds.length cd] 78)) := hb02.trans (hbR.mono (by omega))
      have hb13 : Below w1.heap.size w1 (w2.alloc (.cells #[.slice pw (tk [] l).length cw, .slice pb ns.length cb, .slice pd ds.length cd] 78)) := hb2.trans (hbR.mono (by omega))
      have hRS : RS w1.heap.size w2.heap.size (w2.alloc (.cells #[.slice pw (tk [] l).length cw, .slice pb ns.length cb, .slice pd ds.length cd] 78)) (tk [] l) ns ds (.slice pb ns.length cb) := by
        refine ⟨⟨pw, cw, pd, cd, heap_alloc_new _ _, hT1.along fun b _ hs => hb13.block b hs, hcw, (hd.along fun b _ hs => hb03.block b hs).mono (by omega)⟩, hN2.along fun b _ hs => hbR.block b hs, fun e => ?_, hz2, ?_⟩
        · have := (hN2.lt _ e).2
          omega
        · have h1 := hv.below hb03
          exact ⟨by have := hv.1; omega, h1.2⟩
      have bx3 := bx2.below hbR
      have hz3 : (w2.alloc (.cells #[.slice pw (tk [] l).length cw, .slice pb ns.length cb, .slice pd ds.length cd] 78)).heap.size = w2.heap.size + 1 := by simp
      have HTC : Hid (Calls Tryd.prog 52 #[.pointer (some ⟨w2.heap.size, 0, none⟩), .int .i64 0] (w2.alloc (.cells #[.slice pw (tk [] l).length cw, .slice pb ns.length cb, .slice pd ds.length cd] 78)) (TermPost w1.heap.size w2.heap.size ds ns (w2.alloc (.cells #[.slice pw (tk [] l).length cw, .slice pb ns.length cb, .slice pd ds.length cd] 78)) (.slice pb ns.length cb) res)) := by
        have h1 := term_all ds hd1 24 (Nat.le_refl _) w1.heap.size w2.heap.size _ (tk [] l) ns _ hRS hshw (by omega)
        rw [HRES.out] at h1
        exact h1
      have hvl : ∀ b, (Value.slice pb ns.length cb).ownBlock = some b → w1.heap.size ≤ b ∧ b < w2.heap.size := fun b e => hN2.lt b e
      clear HRES hRS hT1 hN2 bx1 bx2 hb2 hb13
      go_wp2_with fail
      refine HTC.out.mono ?_
      clear HTC
      rintro e w4 ⟨hkb, ws', ns', v', hS4, hon, hres⟩
      have hz4 := hkb.size
      have bx4 := hkb.box (by omega) (fun e => by have := (hvl _ e).1; omega) bx3
      have hb04 : Below w.heap.size w w4 := hb03.trans (hkb.below (by omega) (by omega) (fun b e => by have := (hvl b e).1; omega))
      have hbl := bx4.lt
      obtain ⟨b0, b1, b2, g0, g1, g2⟩ := bx4.facts
      clear bx3 hb03 hkb hbR
      cases res with
      | error y =>
        obtain ⟨rfl, hy0, hln⟩ := hres
        have HE : Hid (ansK pk = ((0, 0, .nil), y)) := by rw [HP.out]; rfl
        have ty : (y == 0) = false := by simpa using hy0
        clear hS4
        go_wp2_with fail
        obtain ⟨d0, d1, d2, _, _, _⟩ := ((bx4.set (.int .i64 0) (.int .i64 0) (.slice none 0 0)).alloc (.cells #[.int .i64 0, .int .i64 0, .slice none 0 0] 24)).facts
        refine bodyPost_ret (v := .tuple #[.agg #[.int .i64 0, .int .i64 0, .slice none 0 0], .int .i64 y]) (by simp [results, Tryd.results23, go_sem, d0, d1, d2]) rfl ?_
        rw [HE.out]
        refine ⟨⟨none, 0, rfl, SlF.nil _ _ _⟩, (((hb04.setCell (Nat.le_refl _) _).setCell (Nat.le_refl _) _).setCell (Nat.le_refl _) _).alloc (by simp [World.setCell]; omega) _⟩
      | ok tr =>
        obtain ⟨t, rest⟩ := tr
        obtain ⟨rfl, rfl, p, cap, rfl, hsl⟩ := hres
        have hrl4 := hS4.lt
        obtain ⟨pw4, cw4, pd4, cd4, r4, _, _, _⟩ := hS4.blk
        obtain ⟨c0, c1, c2, f0, f1, f2⟩ := r4.facts
        cases ws' with
        | nil =>
          rw [List.length_nil] at c0
          have HE : Hid (ansK pk = (t, 0)) := by rw [HP.out]; rfl
          clear hS4 r4
          go_wp2_with fail
          obtain ⟨d0, d1, d2, _, _, _⟩ := ((bx4.set (.int .i64 t.1) (.int .i64 t.2.1) (.slice p (len t.2.2) cap)).alloc (.cells #[.int .i64 t.1, .int .i64 t.2.1, .slice p (len t.2.2) cap] 24)).facts
          refine bodyPost_ret (v := .tuple #[.agg #[.int .i64 t.1, .int .i64 t.2.1, .slice p (len t.2.2) cap], .int .i64 0]) (by simp [results, Tryd.results23, go_sem, d0, d1, d2]) rfl ?_
          rw [HE.out]
          refine ⟨⟨p, cap, rfl, ?_⟩, (((hb04.setCell (Nat.le_refl _) _).setCell (Nat.le_refl _) _).setCell (Nat.le_refl _) _).alloc (by simp [World.setCell]; omega) _⟩
          have hsq : SlQ (fun b => w.heap.size + 1 ≤ b) w4 p t.2.2 := hsl.along fun b o u hq hu => ⟨by have := hq.1; omega, hu⟩
          obtain ⟨b, o, h1, h2⟩ := (SlQ.three hsq (B := w.heap.size) (by omega) (.int .i64 t.1) (.int .i64 t.2.1) (.slice p (len t.2.2) cap)).along (Q' := fun b => w.heap.size ≤ b) (w' := World.alloc _ (.cells #[.int .i64 t.1, .int .i64 t.2.1, .slice p (len t.2.2) cap] 24)) fun b o u hq hu => ⟨by omega, below_some ((Below.refl _ _).alloc (Nat.le_refl _) _) b o u hu⟩
          exact ⟨b, o, h1, h2.toF⟩
        | cons x ws' =>
          have HE : Hid (ansK pk = ((0, 0, .nil), 2)) := by rw [HP.out]; rfl
          rw [List.length_cons] at c0
          clear hS4 r4
          go_wp2_with fail
          obtain ⟨d0, d1, d2, _, _, _⟩ := ((bx4.set (.int .i64 0) (.int .i64 0) (.slice none 0 0)).alloc (.cells #[.int .i64 t.1, .int .i64 t.2.1, .slice p (len t.2.2) cap] 24)).facts
          refine bodyPost_ret (v := .tuple #[.agg #[.int .i64 0, .int .i64 0, .slice none 0 0], .int .i64 2]) (by simp [results, Tryd.results23, go_sem, d0, d1, d2]) rfl ?_
          rw [HE.out]
          refine ⟨⟨none, 0, rfl, SlF.nil _ _ _⟩, (((hb04.setCell (Nat.le_refl _) _).setCell (Nat.le_refl _) _).setCell (Nat.le_refl _) _).alloc (by simp [World.setCell]; omega) _⟩
end Go.Proofs.YtcgpjihfligdbaaDoor
