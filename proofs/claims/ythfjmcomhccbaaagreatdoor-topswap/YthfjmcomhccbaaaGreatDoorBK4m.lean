/-
  Contracts of package book: a term of words.
-/
/-
  Contracts of package book: Read, where a declaration is written.
-/
/-
  Contracts of package book: a line more.
-/
/-
  A range over a function that writes a variable of its own: the caller's law, and what strings.SplitSeq's function does, of lines.
-/
import Derived.Test.YthfjmcomhccbaaaGreatDoorD8m
import Derived.RangeFuncNested
import Derived.RangeFuncBound
import Derived.RangeFuncCalls
import Derived.RangeFuncLeaves
import Derived.RangeFuncRecord
import Derived.Shelf.Abstract
import Derived.Shelf.RegionOpen
import Derived.WalkKit
import Derived.OwnWalkIn
import Derived.TacticsInMore
import Derived.LoopNIn
import Derived.LoopIn
namespace Go.Proofs.YthfjmcomhccbaaaGreatDoor
open Go.RowKit Tmx Evx
set_option maxRecDepth 60000

set_option maxHeartbeats 4000000 in
theorem bparse_any (w : World) (p q : Option Addr) (c cq : Nat) (A ds : List (List UInt8)) (T : Int × Int × F) (h : Tx w.heap.size w p A) (h0 : 0 < A.length) (hc : A.length ≤ c) (hA : A.length ≤ 1000000) (hl : (joinB A).length ≤ 1500) (hd : Tx w.heap.size w q ds) (hdl : ds.length ≤ 1000) (hv : Vs w.heap.size w) (hT : parseK ds [] (joinB A) = .ok T) :
    Calls Tryz.prog 43 #[.slice p A.length c, .slice q ds.length cq] w fun e w' => (∃ p' cap, len T.2.2 ≤ cap ∧ e = .returned (.tuple #[.agg #[.int .i64 T.1, .int .i64 T.2.1, .slice p' (len T.2.2) cap], .int .i64 0]) ∧ SlO (fresh w.heap.size) w' p' T.2.2) ∧ Below w.heap.size w w' := by
  have hb1 : Below w.heap.size w (w.alloc (.cells #[.int .i64 0, .int .i64 0, .slice none 0 0] 30)) := (Below.refl _ _).alloc (Nat.le_refl _) _
  have bx1 := Box.new w (.int .i64 0) (.int .i64 0) (.slice none 0 0)
  have HJ := join_any w.heap.size _ p c A (h.later hb1) h0 hb1.size hc hA (by omega)
  have HS := (show Hid _ from And.intro hd (And.intro hv (And.intro hT (And.intro hdl (And.intro hb1 bx1)))))
  clear h hd hv hT hb1 bx1
  go_enter Tryz.func43, Tryz.ntmps43
  go_wp2_with fail
  refine HJ.mono ?_
  rintro e w2 ⟨rfl, hb2⟩
  have hB2 : Below w.heap.size w w2 := HS.out.2.2.2.2.1.trans (hb2.mono HS.out.2.2.2.2.1.size)
  have HP := pparse_any w2 (joinB A) [] ds none q 0 cq (Tx.nil _ _ _) ((HS.out.1.later hB2).mono hB2.size) (by
    have h1 := HS.out.2.1.below hB2
    exact ⟨Nat.le_trans h1.1 hB2.size, h1.2⟩) (fun _ => rfl) (by omega) (by simp) (by have := HS.out.2.2.2.1; omega)
  rw [HS.out.2.2.1] at HP
  have HB2 := (show Hid _ from And.intro hB2 (Box.below HS.out.2.2.2.2.2 hb2))
  clear HJ hb2 hB2
  simp only [List.length_nil] at HP
  go_wp2_with fail
  refine HP.mono ?_
  rintro e w3 ⟨⟨p', cap, hcap, rfl, hsl⟩, hb3⟩
  simp only [ansK] at hsl hcap ⊢
  have bx3 := Box.below (w := w2) HB2.out.2 hb3
  have HX := (show Hid _ from And.intro hcap (And.intro hsl hb3))
  obtain ⟨b0, b1, b2, g0, g1, g2⟩ := bx3.facts
  clear HP hcap hsl hb3
  go_wp2_with fail
  obtain ⟨d0, d1, d2, _, _, _⟩ := (bx3.set (.int .i64 T.1) (.int .i64 T.2.1) (.slice p' (len T.2.2) cap)).facts
  have hz := HS.out.2.2.2.2.1.size
  have hz2 := HB2.out.1.size
  have hbF : Below w.heap.size w (((w3.setCell ⟨w.heap.size, 0, none⟩ (.int .i64 T.1)).setCell ⟨w.heap.size, 1, none⟩ (.int .i64 T.2.1)).setCell ⟨w.heap.size, 2, none⟩ (.slice p' (len T.2.2) cap)) := (((HB2.out.1.trans (HX.out.2.2.mono hz2)).setCell (Nat.le_refl _) _).setCell (Nat.le_refl _) _).setCell (Nat.le_refl _) _
  refine bodyPost_ret (v := .tuple #[.agg #[.int .i64 T.1, .int .i64 T.2.1, .slice p' (len T.2.2) cap], .int .i64 0]) (by simp [results, Tryz.results43, go_sem, d0, d1, d2]) rfl ⟨⟨p', cap, HX.out.1, rfl, ?_⟩, hbF⟩
  have hlt := (Box.lt (w := w2) HB2.out.2)
  refine SlO.along (O := fresh w2.heap.size) (fun b (hb : w2.heap.size ≤ b) => show w.heap.size ≤ b by omega) (fun b (hb : w2.heap.size ≤ b) => ?_) HX.out.2.1
  rw [Below.heap_setCell _ _ _ _ (by show b ≠ w.heap.size; omega), Below.heap_setCell _ _ _ _ (by show b ≠ w.heap.size; omega), Below.heap_setCell _ _ _ _ (by show b ≠ w.heap.size; omega)]
end Go.Proofs.YthfjmcomhccbaaaGreatDoor

namespace Go.Proofs.YthfjmcomhccbaaaGreatDoor
open Go.RowKit Tmx Evx
set_option maxRecDepth 60000

/-- The text s writes d, where these names are declared. -/
structure Reads (ns : List (List UInt8)) (s : List UInt8) (d : Dcl) (A B : List (List UInt8)) : Prop where
  len : s.length ≤ 1500
  ap : Apart (tk [] s) d.nm A B
  T : parseK ns [] (joinB A) = .ok d.T
  B : parseK ns [] (joinB B) = .ok d.B
  nm : d.nm.length ≤ 1500
  few : (tk [] s).length ≤ 1000000
theorem parse_short {ns : List (List UInt8)} {l : List UInt8} {x : Int × Int × F} (h : parseK ns [] l = .ok x) : l.length ≤ 1500 := by
  unfold parseK at h
  by_cases h1 : 1500 < l.length
  · rw [if_pos h1] at h; cases h
  · omega

theorem Vs.up {w w' : World} (h : Vs w.heap.size w) (hb : Below w.heap.size w w') : Vs w'.heap.size w' := by
  have h1 := h.below hb
  exact ⟨Nat.le_trans h1.1 hb.size, h1.2⟩

set_option maxHeartbeats 8000000 in
theorem bread_any (w : World) (p : Option Addr) (cap : Nat) (l : List Dcl) (s : List UInt8) (d : Dcl) (A B : List (List UInt8)) (hl : DlAt w p l) (hc : l.length ≤ 1000) (hR : Reads (l.map Dcl.nm) s d A B) (hv : Vs w.heap.size w) :
    Calls Tryz.prog 27 #[.slice p l.length cap, .string ⟨s.toArray⟩] w fun e w' => (∃ p1 p2 c1 c2, e = .returned (.tuple #[.agg (sevenD d p1 p2 c1 c2).toArray, .int .i64 0]) ∧ len d.T.2.2 ≤ c1 ∧ len d.B.2.2 ≤ c2 ∧ SlO (fresh w.heap.size) w' p1 d.T.2.2 ∧ SlO (fresh w.heap.size) w' p2 d.B.2.2) ∧ Below w.heap.size w w' := by
  obtain ⟨n, hn⟩ : ∃ n, l.length = n := ⟨_, rfl⟩
  have hs15 := hR.len
  have hb1 : Below w.heap.size w (w.alloc (.cells #[.string ⟨#[]⟩, .int .i64 0, .int .i64 0, .slice none 0 0, .int .i64 0, .int .i64 0, .slice none 0 0] 70)) := (Below.refl _ _).alloc (Nat.le_refl _) _
  have bx1 := Blk.new w #[.string ⟨#[]⟩, .int .i64 0, .int .i64 0, .slice none 0 0, .int .i64 0, .int .i64 0, .slice none 0 0] 70
  have HS := (show Hid _ from And.intro hl (And.intro hc (And.intro hR (And.intro hv (And.intro hn (And.intro hb1 bx1))))))
  rw [hn] at hc ⊢
  have HWd := words_any s (w.alloc (.cells #[.string ⟨#[]⟩, .int .i64 0, .int .i64 0, .slice none 0 0, .int .i64 0, .int .i64 0, .slice none 0 0] 70)) (by omega)
  clear hl hR hv hn hb1 bx1
  go_enter Tryz.func27, Tryz.ntmps27
  go_wp2_with fail
  refine HWd.mono ?_
  rintro e w1 ⟨⟨pw, cw, rfl, hN⟩, hb⟩
  obtain ⟨ht, hcw⟩ := hN.tx
  have hB1 : Below w.heap.size w w1 := HS.out.2.2.2.2.2.1.trans (hb.mono HS.out.2.2.2.2.2.1.size)
  have bx2 := HS.out.2.2.2.2.2.2.below hb
  have HA := apart_any w1 pw cw (tk [] s) d.nm A B ht hcw HS.out.2.2.1.few HS.out.2.2.1.ap (HS.out.2.2.2.1.up hB1) HS.out.2.2.1.nm
  have H1 := (show Hid _ from And.intro hB1 bx2)
  clear HWd hN ht hcw hb hB1 bx2
  go_wp2_with fail
  refine HA.mono ?_
  rintro e w2 ⟨⟨p1, p2, c1, c2, rfl, ht1, ht2, hc1, hc2⟩, hb⟩
  have hB2 : Below w.heap.size w w2 := H1.out.1.trans (hb.mono H1.out.1.size)
  have hb3 : Below w2.heap.size w2 (w2.alloc (.cells #[.slice p1 A.length c1, .slice p2 B.length c2] 103)) := (Below.refl _ _).alloc (Nat.le_refl _) _
  have px := Blk.new w2 #[.slice p1 A.length c1, .slice p2 B.length c2] 103
  have hB3 : Below w.heap.size w (w2.alloc (.cells #[.slice p1 A.length c1, .slice p2 B.length c2] 103)) := hB2.trans (hb3.mono hB2.size)
  have bx3 := (Blk.below (w := w1) H1.out.2 hb).below hb3
  have HNm := dnames_any l p cap (w2.alloc (.cells #[.slice p1 A.length c1, .slice p2 B.length c2] 103)) (HS.out.1.below hB3) HS.out.2.1
  rw [HS.out.2.2.2.2.1] at HNm
  have H3 := (show Hid _ from And.intro hB3 (And.intro bx3 (And.intro px (And.intro (ht1.later (hb3.mono hb.size)) (And.intro (ht2.later (hb3.mono hb.size)) (And.intro hc1 (And.intro hc2 (Nat.le_trans hb.size hb3.size))))))))
  clear HA ht1 ht2 hc1 hc2 hb hB2 hb3 hB3 bx3 px
  go_wp2_with fail
  refine HNm.mono ?_
  rintro e w4 ⟨⟨q, rfl, hq⟩, hb4⟩
  generalize hW3 : w2.alloc (.cells #[.slice p1 A.length c1, .slice p2 B.length c2] 103) = w3 at *
  have hB4 : Below w.heap.size w w4 := H3.out.1.trans (hb4.mono H3.out.1.size)
  have bx4 := Blk.below (w := w3) H3.out.2.1 hb4
  have px4 := Blk.below (w := w3) H3.out.2.2.1 hb4
  obtain ⟨x0, x1, _, _⟩ := px4.two
  have hA1 := (firstN_pos _ _ _ HS.out.2.2.1.ap.fst).1
  have hA2 := (firstN_pos _ _ _ HS.out.2.2.1.ap.snd).1
  have hAB : A.length ≤ 1000000 ∧ B.length ≤ 1000000 := by
    have h1 := HS.out.2.2.1.few
    rw [HS.out.2.2.1.ap.ws] at h1
    simp at h1
    omega
  have hlen : (l.map Dcl.nm).length = n := by rw [List.length_map]; exact HS.out.2.2.2.2.1
  have hz34 := hb4.size
  have hz13 := H3.out.2.2.2.2.2.2.2
  have HP1 := bparse_any w4 p1 q c1 n A (l.map Dcl.nm) d.T ((H3.out.2.2.2.1.later (hb4.mono hz13)).mono (by omega)) hA1 H3.out.2.2.2.2.2.1 hAB.1 (parse_short HS.out.2.2.1.T) hq (by omega) (HS.out.2.2.2.1.up hB4) HS.out.2.2.1.T
  rw [hlen] at HP1
  have H4 := (show Hid _ from And.intro hB4 (And.intro bx4 (And.intro px4 (And.intro hq (And.intro hb4 hAB)))))
  clear HNm hq hb4 hB4 bx4 px4
  go_wp2_with fail
  refine HP1.mono ?_
  rintro e w5 ⟨⟨q1, d1, hd1, rfl, hs1⟩, hb5⟩
  have hb6 : Below w5.heap.size w5 (w5.alloc (.cells #[.int .i64 d.T.1, .int .i64 d.T.2.1, .slice q1 (len d.T.2.2) d1] 30)) := (Below.refl _ _).alloc (Nat.le_refl _) _
  have tx := Blk.new w5 #[.int .i64 d.T.1, .int .i64 d.T.2.1, .slice q1 (len d.T.2.2) d1] 30
  have hb46 : Below w4.heap.size w4 (w5.alloc (.cells #[.int .i64 d.T.1, .int .i64 d.T.2.1, .slice q1 (len d.T.2.2) d1] 30)) := hb5.trans (hb6.mono hb5.size)
  have hB6 : Below w.heap.size w (w5.alloc (.cells #[.int .i64 d.T.1, .int .i64 d.T.2.1, .slice q1 (len d.T.2.2) d1] 30)) := H4.out.1.trans (hb46.mono H4.out.1.size)
  have bx6 := Blk.below (w := w4) H4.out.2.1 hb46
  have hs6 := hs1.carry fun b o u _ hc => below_some hb6 b o u hc
  generalize hW6 : w5.alloc (.cells #[.int .i64 d.T.1, .int .i64 d.T.2.1, .slice q1 (len d.T.2.2) d1] 30) = w6 at *
  obtain ⟨y0, y1, _, _⟩ := (Blk.below (w := w4) H4.out.2.2.1 hb46).two
  have hz46 := hb46.size
  have hz45 := hb5.size
  have HP2 := bparse_any w6 p2 q c2 n B (l.map Dcl.nm) d.B (((H3.out.2.2.2.2.1.later ((H4.out.2.2.2.2.1).mono hz13)).later (hb46.mono (by omega))).mono (by omega)) hA2 H3.out.2.2.2.2.2.2.1 H4.out.2.2.2.2.2.2 (parse_short HS.out.2.2.1.B) ((H4.out.2.2.2.1.later hb46).mono hz46) (by omega) (HS.out.2.2.2.1.up hB6) HS.out.2.2.1.B
  rw [hlen] at HP2
  have H6 := (show Hid _ from And.intro hB6 (And.intro bx6 (And.intro tx (And.intro hs6 (And.intro hd1 (And.intro hb6 hb46))))))
  clear HP1 hb5 hb6 tx hb46 hB6 bx6 hs6 hs1 hd1 x0 x1
  go_wp2_with fail
  refine HP2.mono ?_
  rintro e w7 ⟨⟨q2, d2, hd2, rfl, hs2⟩, hb7⟩
  have hb8 : Below w7.heap.size w7 (w7.alloc (.cells #[.int .i64 d.B.1, .int .i64 d.B.2.1, .slice q2 (len d.B.2.2) d2] 30)) := (Below.refl _ _).alloc (Nat.le_refl _) _
  have ux := Box.new w7 (.int .i64 d.B.1) (.int .i64 d.B.2.1) (.slice q2 (len d.B.2.2) d2)
  have hb68 : Below w6.heap.size w6 (w7.alloc (.cells #[.int .i64 d.B.1, .int .i64 d.B.2.1, .slice q2 (len d.B.2.2) d2] 30)) := hb7.trans (hb8.mono hb7.size)
  have hB8 : Below w.heap.size w (w7.alloc (.cells #[.int .i64 d.B.1, .int .i64 d.B.2.1, .slice q2 (len d.B.2.2) d2] 30)) := H6.out.1.trans (hb68.mono H6.out.1.size)
  have bx8 := Blk.below (w := w6) H6.out.2.1 hb68
  have tx8 := Blk.below (w := w6) H6.out.2.2.1 hb68
  have hs8 := H6.out.2.2.2.1.carry fun b o u _ hc => below_some hb68 b o u hc
  have ht8 := hs2.carry fun b o u _ hc => below_some hb8 b o u hc
  generalize hW8 : w7.alloc (.cells #[.int .i64 d.B.1, .int .i64 d.B.2.1, .slice q2 (len d.B.2.2) d2] 30) = w8 at *
  have H8 := (show Hid _ from And.intro hB8 (And.intro bx8 (And.intro tx8 (And.intro ux (And.intro hs8 (And.intro ht8 hd2))))))
  have HCl : Hid (∀ W, Calls Tryz.prog 44 #[.string ⟨d.nm.toArray⟩] W fun e w' => e = .returned (.string ⟨d.nm.toArray⟩) ∧ Below W.heap.size W w') := fun W => sclone_any d.nm W (by have := HS.out.2.2.1.nm; omega)
  obtain ⟨a0, a1, a2, _, _, _⟩ := tx8.three
  obtain ⟨e0, e1, e2, _, _, _⟩ := Box.facts ux
  obtain ⟨_, v0, v1, v2, v3, v4, v5, v6⟩ := bx8.seven
  have hz67 := hb7.size
  have hlt4 := Blk.lt (w := w4) H4.out.2.1
  have ne5 : w.heap.size ≠ w5.heap.size := by omega
  have ne7 : w.heap.size ≠ w7.heap.size := by omega
  have ne5' : w5.heap.size ≠ w.heap.size := by omega
  have ne7' : w7.heap.size ≠ w.heap.size := by omega
  clear HP2 hb7 hb8 hb68 hB8 bx8 tx8 ux hs8 ht8 hs2 hd2 y0 y1
  go_wp2_with fail
  go_region_held3 (fun w' => w'.cell? ⟨w5.heap.size, 0, none⟩ = some (.int .i64 d.T.1) ∧ w'.cell? ⟨w5.heap.size, 1, none⟩ = some (.int .i64 d.T.2.1) ∧ w'.cell? ⟨w5.heap.size, 2, none⟩ = some (.slice q1 (len d.T.2.2) d1) ∧
      w'.cell? ⟨w7.heap.size, 0, none⟩ = some (.int .i64 d.B.1) ∧ w'.cell? ⟨w7.heap.size, 1, none⟩ = some (.int .i64 d.B.2.1) ∧ w'.cell? ⟨w7.heap.size, 2, none⟩ = some (.slice q2 (len d.B.2.2) d2)) (go_keep)
    (first
      | (go_at_call 44; ((with_reducible refine (HCl.out w8.drew).mono ?_); rintro e w9 ⟨rfl, hb9⟩); obtain ⟨y0, y1, y2, _, _, _⟩ := (Blk.below (w := w8.drew) H8.out.2.2.1 hb9).three; obtain ⟨z0, z1, z2, _, _, _⟩ := Box.facts (Box.below (w := w8.drew) H8.out.2.2.2.1 hb9); obtain ⟨_, r0, r1, r2, r3, r4, r5, r6⟩ := (Blk.below (w := w8.drew) H8.out.2.1 hb9).seven))
  rw [show ((((((w9.setCell ⟨w.heap.size, 0, none⟩ (.string ⟨d.nm.toArray⟩)).setCell ⟨w.heap.size, 1, none⟩ (.int .i64 d.T.1)).setCell ⟨w.heap.size, 2, none⟩ (.int .i64 d.T.2.1)).setCell ⟨w.heap.size, 3, none⟩ (.slice q1 (len d.T.2.2) d1)).setCell ⟨w.heap.size, 4, none⟩ (.int .i64 d.B.1)).setCell ⟨w.heap.size, 5, none⟩ (.int .i64 d.B.2.1)).setCell ⟨w.heap.size, 6, none⟩ (.slice q2 (len d.B.2.2) d2) = put7 w9 w.heap.size (.string ⟨d.nm.toArray⟩) (.int .i64 d.T.1) (.int .i64 d.T.2.1) (.slice q1 (len d.T.2.2) d1) (.int .i64 d.B.1) (.int .i64 d.B.2.1) (.slice q2 (len d.B.2.2) d2) from rfl]
  have hz8 : w.heap.size ≤ w8.heap.size := H8.out.1.size
  have hB9 : Below w.heap.size w w9 := (H8.out.1.drew.trans (hb9.mono hz8))
  have hF : Hid (SlO (fresh w.heap.size) (put7 w9 w.heap.size (.string ⟨d.nm.toArray⟩) (.int .i64 d.T.1) (.int .i64 d.T.2.1) (.slice q1 (len d.T.2.2) d1) (.int .i64 d.B.1) (.int .i64 d.B.2.1) (.slice q2 (len d.B.2.2) d2)) q1 d.T.2.2 ∧
      SlO (fresh w.heap.size) (put7 w9 w.heap.size (.string ⟨d.nm.toArray⟩) (.int .i64 d.T.1) (.int .i64 d.T.2.1) (.slice q1 (len d.T.2.2) d1) (.int .i64 d.B.1) (.int .i64 d.B.2.1) (.slice q2 (len d.B.2.2) d2)) q2 d.B.2.2 ∧
      Below w.heap.size w (put7 w9 w.heap.size (.string ⟨d.nm.toArray⟩) (.int .i64 d.T.1) (.int .i64 d.T.2.1) (.slice q1 (len d.T.2.2) d1) (.int .i64 d.B.1) (.int .i64 d.B.2.1) (.slice q2 (len d.B.2.2) d2))) := by
    refine ⟨?_, ?_, put7_below hB9 (Nat.le_refl _) _ _ _ _ _ _ _⟩
    · refine SlO.mono (O := fresh w4.heap.size) (fun b (h : w4.heap.size ≤ b) => show w.heap.size ≤ b by omega) ?_
      refine SlO.other (w := w9) ?_ fun b (h : w4.heap.size ≤ b) => put7_ne _ _ _ _ _ _ _ (by omega)
      exact SlO.carry (w := w8) (fun b o u _ hc => below_some (w := w8.drew) hb9 _ _ _ hc) H8.out.2.2.2.2.1
    · refine SlO.mono (O := fresh w6.heap.size) (fun b (h : w6.heap.size ≤ b) => show w.heap.size ≤ b by omega) ?_
      refine SlO.other (w := w9) ?_ fun b (h : w6.heap.size ≤ b) => put7_ne _ _ _ _ _ _ _ (by omega)
      exact SlO.carry (w := w8) (fun b o u _ hc => below_some (w := w8.drew) hb9 _ _ _ hc) H8.out.2.2.2.2.2.1
  obtain ⟨⟨u0, u1, u2, u3, u4, u5, u6⟩, _⟩ := (put7_blk (Blk.below (w := w8.drew) H8.out.2.1 hb9) (.string ⟨d.nm.toArray⟩) (.int .i64 d.T.1) (.int .i64 d.T.2.1) (.slice q1 (len d.T.2.2) d1) (.int .i64 d.B.1) (.int .i64 d.B.2.1) (.slice q2 (len d.B.2.2) d2)).seven
  generalize put7 w9 w.heap.size (.string ⟨d.nm.toArray⟩) (.int .i64 d.T.1) (.int .i64 d.T.2.1) (.slice q1 (len d.T.2.2) d1) (.int .i64 d.B.1) (.int .i64 d.B.2.1) (.slice q2 (len d.B.2.2) d2) = w10 at *
  clear y0 y1 y2 z0 z1 z2 r0 r1 r2 r3 r4 r5 r6 a0 a1 a2 e0 e1 e2 v0 v1 v2 v3 v4 v5 v6 hB9 hb9
  go_wp2_with fail
  refine bodyPost_ret (v := .tuple #[.agg (sevenD d q1 q2 d1 d2).toArray, .int .i64 0]) (by simp [results, sevenD, Tryz.results27, go_sem, u0, u1, u2, u3, u4, u5, u6]) rfl ⟨⟨q1, q2, d1, d2, rfl, H6.out.2.2.2.2.1, H8.out.2.2.2.2.2.2, hF.out.1, hF.out.2.1⟩, hF.out.2.2⟩
end Go.Proofs.YthfjmcomhccbaaaGreatDoor

namespace Go.Proofs.YthfjmcomhccbaaaGreatDoor
open Go.RowKit Tmx Evx
set_option maxRecDepth 60000

theorem nameOK_of {w : World} {nm : List UInt8} (hv : Vs w.heap.size w) (h : nameB nm = true) (hl : nm.length ≤ 1500) : NameOK nm w := fun w' hb =>
  (pname_any nm w' w.heap.size (hv.below hb) (by omega)).mono fun e w'' h1 => by
    obtain ⟨h2, rfl⟩ := h1
    rw [h] at h2
    exact ⟨h2, Below.refl _ _⟩

set_option maxHeartbeats 8000000 in
theorem bfurther_any (sg cf fu : Nat) (w : World) (p : Option Addr) (cap : Nat) (l : List Dcl) (s : List UInt8) (d : Dcl) (r : Bool) (A B : List (List UInt8)) (hl : DlAt w p l) (hR : Reads (l.map Dcl.nm) s d A B) (hv : Vs w.heap.size w) (hF : Fits sg cf fu l d r) (hs : small d) (hls : ∀ x, x ∈ l → small x) :
    Calls Tryz.prog 19 #[.slice p l.length cap, .string ⟨s.toArray⟩] w fun e w' => ∃ v', e = .returned (.tuple #[v', .agg #[.int .i64 (okE r), .int .i64 (if r then 0 else 2)]]) ∧ DlIn w.heap.size w' v' (if r then l ++ [d] else l) ∧ Below w.heap.size w w' := by
  obtain ⟨ez, hez⟩ : ∃ e, okE r = e := ⟨_, rfl⟩
  obtain ⟨pz, hpz⟩ : ∃ e, (if r = true then (0 : Int) else 2) = e := ⟨_, rfl⟩
  obtain ⟨L, hL⟩ : ∃ L, (if r = true then l ++ [d] else l) = L := ⟨_, rfl⟩
  obtain ⟨n, hn⟩ : ∃ n, l.length = n := ⟨_, rfl⟩
  have HE : Hid (okE r = ez ∧ (if r = true then (0 : Int) else 2) = pz ∧ (if r = true then l ++ [d] else l) = L ∧ l.length = n) := ⟨hez, hpz, hL, hn⟩
  have hn12 : n < 12 := by have := hF.few; omega
  have hb1 : Below w.heap.size w (w.alloc (.cells #[.int .i64 0, .int .i64 0] 40)) := (Below.refl _ _).alloc (Nat.le_refl _) _
  have vx := Blk.new w #[.int .i64 0, .int .i64 0] 40
  have HRd := bread_any _ p cap l s d A B (hl.below hb1) (by omega) hR (hv.up hb1)
  have HS := (show Hid _ from And.intro hl (And.intro hR (And.intro hv (And.intro hF (And.intro hs (And.intro hls (And.intro hb1 vx)))))))
  rw [hn] at HRd
  rw [hez, hpz, hL, hn]
  clear hez hpz hL hn hl hR hv hF hs hls hb1 vx
  go_enter Tryz.func19, Tryz.ntmps19
  go_wp2_with fail
  refine HRd.mono ?_
  rintro e w1 ⟨⟨p1, p2, c1, c2, rfl, hc1, hc2, hs1, hs2⟩, hb⟩
  have hb2 : Below w1.heap.size w1 (w1.alloc (.cells (sevenD d p1 p2 c1 c2).toArray 70)) := (Below.refl _ _).alloc (Nat.le_refl _) _
  have dx := Blk.new w1 (sevenD d p1 p2 c1 c2).toArray 70
  have hz1 := HS.out.2.2.2.2.2.2.1.size
  have hB1 : Below w.heap.size w w1 := HS.out.2.2.2.2.2.2.1.trans (hb.mono hz1)
  have hB2 : Below w.heap.size w (w1.alloc (.cells (sevenD d p1 p2 c1 c2).toArray 70)) := hB1.trans (hb2.mono hB1.size)
  have vx2 := (Blk.below (w := World.alloc w _) HS.out.2.2.2.2.2.2.2 hb).below hb2
  generalize hW2 : w1.alloc (.cells (sevenD d p1 p2 c1 c2).toArray 70) = w2 at *
  have HA := add_any sg cf fu l d r p p1 p2 cap c1 c2 w2 (HS.out.1.below hB2) hc1 hc2 ((hs1.carry fun b o u _ hc => below_some hb2 b o u hc).lt) ((hs2.carry fun b o u _ hc => below_some hb2 b o u hc).lt) (nameOK_of (HS.out.2.2.1.up hB2) HS.out.2.1.ap.name HS.out.2.1.nm) HS.out.2.2.2.1 HS.out.2.2.2.2.1 HS.out.2.2.2.2.2.1
  rw [HE.out.1, HE.out.2.1, HE.out.2.2.1, HE.out.2.2.2] at HA
  have H2 := (show Hid _ from And.intro hB2 vx2)
  obtain ⟨⟨x0, x1, x2, x3, x4, x5, x6⟩, _⟩ := Blk.seven dx
  unfold sevenD at *
  clear HRd hc1 hc2 hs1 hs2 hb hb2 dx hB1 hB2 vx2
  go_wp2_with fail
  refine HA.mono ?_
  rintro e w3 ⟨v', rfl, hD, hb3⟩
  have H3 := (show Hid _ from And.intro hD hb3)
  obtain ⟨u0, u1, f0, f1⟩ := (Blk.below (w := w2) H2.out.2 hb3).two
  clear HA hD hb3 x0 x1 x2 x3 x4 x5 x6
  go_wp2_with fail
  obtain ⟨d0, d1, _, _⟩ := ((Blk.below (w := w2) H2.out.2 H3.out.2).set2 (.int .i64 ez) (.int .i64 pz)).two
  have hz2 := H2.out.1.size
  have hlt2 := Blk.lt (w := w2) H2.out.2
  have hDF : DlIn w.heap.size ((w3.setCell ⟨w.heap.size, 0, none⟩ (.int .i64 ez)).setCell ⟨w.heap.size, 1, none⟩ (.int .i64 pz)) v' L := by
    obtain ⟨xs, h1, h2⟩ := H3.out.1
    have h : DlIn w2.heap.size ((w3.setCell ⟨w.heap.size, 0, none⟩ (.int .i64 ez)).setCell ⟨w.heap.size, 1, none⟩ (.int .i64 pz)) v' L :=
      DlIn.wrote h1 (h2.map fun {q f} hs => hs.mono fun b h => ⟨h, by have := h.1.1; omega⟩) (fun e => by have := (H3.out.1.lt e).1; omega) _ _
    exact h.mono (by omega)
  have hBF : Below w.heap.size w ((w3.setCell ⟨w.heap.size, 0, none⟩ (.int .i64 ez)).setCell ⟨w.heap.size, 1, none⟩ (.int .i64 pz)) := ((H2.out.1.trans (H3.out.2.mono hz2)).setCell (Nat.le_refl _) _).setCell (Nat.le_refl _) _
  exact bodyPost_ret (v := .tuple #[v', .agg #[.int .i64 ez, .int .i64 pz]]) (by simp [results, Tryz.results19, go_sem, d0, d1]) rfl ⟨_, rfl, hDF, hBF⟩
end Go.Proofs.YthfjmcomhccbaaaGreatDoor

namespace Go.Proofs.YthfjmcomhccbaaaGreatDoor
open Go.RowKit Tmx Evx
set_option maxRecDepth 60000
attribute [local go_sem] Oper.semAt_some

/-- A loop's record, of what the activation holds. -/
def recOf (fn : FuncId) (a : Act) (ps : Array Tmp) (asg bd : Code) (D : Nat) (st : LoopState) : Loop := { state := st, pending := none, fn, tmps := a.tmps, params := ps, assign := asg, body := bd, defers := D }
/-- Between two rounds: the record at l is ready, the block D of the rounds' deferred calls open. -/
def Ready (fn : FuncId) (a : Act) (ps : Array Tmp) (asg bd : Code) (D : Nat) (W : World) : Prop := W.heap[D + 1]? = some (.loop (recOf fn a ps asg bd D .ready)) ∧ W.heap[D]? = some (.deferred (some []))

/-- M k j: k rounds are over, and j of them the function that is ranged over knows of. -/
theorem range_own {P : Program} {g : Operand} {ps : Array Tmp} {asg bd : Code} {Q : Exit → Act → World → Prop} {a : Act} {w : World} {gf : Nat} {lb : Array Value}
    (hg : a.eval g = .func (.func gf) #[] lb) (eg : ∀ args w, (callFunc gf args).run P w = .ok (.enter gf args) w) (encs : Nat → Array Value) (hps : ∀ k, (encs k).size = ps.size) (N : Nat) (M : Nat → Nat → World → Prop)
    (hM : ∀ k j W l o o', M k j W → w.heap.size ≤ l → W.heap[l]? = some o → o.isCells = false → M k j (W.putObj l o'))
    (h0 : ∀ o1 o2, M 0 0 ((w.alloc o1).alloc o2)) (a₁ : Nat → Act)
    (hassign : ∀ (l k : Nat) (W : World) (K : Act → World → Prop), K (a₁ k) W → asg.wpIn (Fence.wide.inRound l) 3 P (Exit.then K (fun _ _ _ => False)) { tmps := (ps.zip (encs k)).foldl (fun t (p, v) => t.setIfInBounds p v) a.tmps, defers := [] } W)
    (hbody : ∀ (l k : Nat) (W : World), M k k W → k < N → bd.wpIn (Fence.wide.inRound l) 3 P (fun e _ W' => e = .normal ∧ KeepsOthers W W' ∧ M (k + 1) k W') (a₁ k) W)
    (hiter : ∀ (l : Nat) (R : World → Prop) (W : World), (∀ W b v, R W → W.heap[b]? ≠ none → (∃ cs T f, W.heap[b]? = some (.cells cs T f)) → R (W.setCell ⟨b, 0, none⟩ v)) →
      (∀ k W, M k k W → R W → k < N → YieldAt Fence.wide 3 P l (encs k) W fun e W' => e = .returned (.bool true) ∧ M (k + 1) k W' ∧ R W') → M 0 0 W → R W →
      CallsIn Fence.wide 4 P gf (#[.func (.yield l) #[] #[]] ++ lb) W fun e W' => (∃ v, e = .returned v) ∧ (∃ j, M N j W') ∧ R W')
    (hdone : ∀ (D j : Nat) (W : World), w.heap.size ≤ D → M N j W → W.heap[D]? = some (.deferred (some [])) → Q .normal { a with defers := { target := .collected D, args := #[] } :: a.defers } W) :
    (Code.rangeFunc g ps asg bd).wpIn Fence.wide 5 P Q a w := by
  refine wpIn_rangeFunc fun fn _ => ?_
  have hl0 : ∀ o1 o2, (((w.alloc o1).alloc o2).heap[w.heap.size + 1]? = some o2) ∧ ((w.alloc o1).alloc o2).heap[w.heap.size]? = some o1 := fun o1 o2 => by
    have h1 := World.alloc_heap_new (w.alloc o1) o2
    rw [World.size_alloc] at h1
    exact ⟨h1, (Below.heap_alloc _ _ _ (by simp)).trans (World.alloc_heap_new w _)⟩
  refine ⟨w.heap.size + 1, _, ((w.alloc (.deferred (some []))).alloc (.loop (recOf fn a ps asg bd w.heap.size .ready))), { target := .fn (.func gf) lb, args := #[.func (.yield (w.heap.size + 1)) #[] #[]] }, ((w.alloc (.deferred (some []))).alloc (.loop (recOf fn a ps asg bd w.heap.size .ready))), gf, #[.func (.yield (w.heap.size + 1)) #[] #[]] ++ lb, ((w.alloc (.deferred (some []))).alloc (.loop (recOf fn a ps asg bd w.heap.size .ready))), run_enterLoop_outer _ _ _ _ _, ?_, fun _ _ => trivial, ?_, fun _ => by omega, ?_⟩
  · simp only [resolve, hg]
    simp [go_sem]
  · simp [invoke, go_sem, eg]
  · refine (hiter (w.heap.size + 1) (Ready fn a ps asg bd w.heap.size) _ ?_ ?_ (h0 _ _) ⟨(hl0 _ _).1, (hl0 _ _).2⟩).mono ?_
    · rintro W b v ⟨r1, r2⟩ _ ⟨cs, T, f, hc⟩
      exact ⟨by rw [Below.heap_setCell _ _ _ _ (by rintro rfl; rw [hc] at r1; simp at r1)]; exact r1, by rw [Below.heap_setCell _ _ _ _ (by rintro rfl; rw [hc] at r2; simp at r2)]; exact r2⟩
    · rintro k W hm ⟨r1, r2⟩ hk
      have hy := run_yield (P := P) (args := encs k) r1 (hps k)
      refine ⟨fn, _, asg, bd, hy, roundIn_of_wpIn trivial (hassign _ k W _ ⟨_, run_beginRound r1 rfl, ?_⟩)⟩
      have hlt := (Array.getElem?_eq_some_iff.1 r1).1
      refine wpIn_mono (hbody _ k _ (hM _ _ _ _ _ _ hm (by omega) r1 rfl) hk) ?_
      rintro e a3 W3 ⟨rfl, hk3, hm3⟩
      have q1 := hk3.same _ _ (World.putObj_heap_same (o := .loop { recOf fn a ps asg bd w.heap.size .ready with state := .busy }) hlt) rfl
      have q2 := hk3.same w.heap.size _ ((World.putObj_heap_other (by omega)).trans r2) rfl
      refine ⟨_, _, run_endRound none q1, rfl, hM _ _ _ _ _ _ hm3 (by omega) q1 rfl, ?_, ?_⟩
      · exact World.putObj_heap_same (Array.getElem?_eq_some_iff.1 q1).1
      · exact (World.putObj_heap_other (by omega)).trans q2
    · rintro e W2 ⟨⟨v, rfl⟩, ⟨j, hm⟩, r1, r2⟩
      refine ⟨none, _, run_endLoop (P := P) r1 (by simp [recOf]), hdone _ j _ (Nat.le_refl _) (hM _ _ _ _ _ _ hm (by omega) r1 rfl) ((World.putObj_heap_other (by omega)).trans r2)⟩
end Go.Proofs.YthfjmcomhccbaaaGreatDoor
