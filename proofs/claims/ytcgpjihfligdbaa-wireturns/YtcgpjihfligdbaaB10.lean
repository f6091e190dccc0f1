/-
  The first fact of the statements of chapter 2: the program is there.
-/
import Derived.Test.YtcgpjihfligdbaaB8
import Derived.Test.YtcgpjihfligdbaaB9
namespace Go.Proofs.Ytcgpjihfligdbaa
open Go.RowKit Tmx
set_option maxRecDepth 60000

def f1 : F := .node 0 0 (1, 3) .nil .nil
theorem f1_bytes : ([] : List UInt8) ++ bytesT 16 0 f1 = [16, 1, 3] := by decide
theorem f1_decl : declB [97] (16, 0, f1) (16, 0, f1) = [1, 97, 16, 1, 3, 16, 1, 3] := by decide
theorem f1_get : getT 24 [16, 1, 3, 7] = .ok ((16, 0, f1), [7]) := by kernel_rfl
theorem f1_getD : getD [1, 97, 16, 1, 3, 16, 1, 3] = .ok ([97], (16, 0, f1), (16, 0, f1)) := by kernel_rfl
theorem f1_same : sameT 16 0 f1 16 0 f1 = true := by decide

set_option maxHeartbeats 2000000 in
theorem alive_any (w : World) : Calls Try.prog 21 #[] w fun e w' => e = .returned (.bool true) ∧ Below w.heap.size w w' := by
  obtain ⟨W1, hW1⟩ : ∃ W1, w.alloc (.cells #[.int .i64 1, .int .i64 3, .slice none 0 0] 24) = W1 := ⟨_, rfl⟩
  obtain ⟨W, hW⟩ : ∃ W, W1.alloc (.cells #[.int .i64 16, .int .i64 0, .slice (some ⟨w.heap.size, 0, none⟩) 1 1] 24) = W := ⟨_, rfl⟩
  have hz1 : W1.heap.size = w.heap.size + 1 := by rw [← hW1]; simp
  have hz : W.heap.size = w.heap.size + 2 := by rw [← hW]; simp; omega
  have ba : Box W w.heap.size (.int .i64 1) (.int .i64 3) (.slice none 0 0) := by rw [← hW, ← hW1]; exact (Box.new _ _ _ _).alloc _
  have bt : Box W (w.heap.size + 1) (.int .i64 16) (.int .i64 0) (.slice (some ⟨w.heap.size, 0, none⟩) (len f1) 1) := by rw [← hW, ← hz1]; exact Box.new _ _ _ _
  have hbW : Below w.heap.size w W := by rw [← hW, ← hW1]; exact ((Below.refl _ _).alloc (Nat.le_refl _) _).alloc (by simp) _
  have hs : Sl W (some ⟨w.heap.size, 0, none⟩) f1 := by
    obtain ⟨a0, a1, a2, _, _, _⟩ := ba.facts
    exact ⟨w.heap.size, 0, fun _ => rfl, a0, a1, ⟨none, 0, 0, 0, a2, fun h => by simp [len] at h, trivial⟩, trivial⟩
  obtain ⟨t0, t1, t2, _, _, _⟩ := bt.facts
  have HT := term_any 5 f1 16 0 (some ⟨w.heap.size, 0, none⟩) 1 W W W.heap.size (.slice none 0 0) [] (by decide) (by decide) hs (Below.refl _ _) (Nat.le_refl _) (Nat.le_refl _) (BytesIn.nil _ _)
  rw [f1_bytes] at HT
  have HT1 : Hid (Calls Try.prog 23 #[.slice none 0 0, .agg #[.int .i64 16, .int .i64 0, .slice (some ⟨w.heap.size, 0, none⟩) 1 1]] W fun e w' => ∃ v', e = .returned v' ∧ BytesIn W.heap.size w' v' [16, 1, 3] ∧ Below W.heap.size W w') := HT
  clear HT ba
  go_enter Try.func21, Try.ntmps21
  go_wp2_with fail
  refine HT1.out.mono ?_
  rintro e w2 ⟨v2, rfl, hB2, hb2⟩
  obtain ⟨p2, c2, rfl, _, _, _⟩ := hB2.form
  rw [show ([16, 1, 3] : List UInt8).length = 3 from rfl] at hB2 ⊢
  have hz2 := hb2.size
  obtain ⟨v3, w3, hr3, hB3, hg3, hb3⟩ := append_byte (w2.alloc (.cells #[.int .u8 7] 5)) W.heap.size (.slice p2 3 c2) [16, 1, 3] (hB2.below ((Below.refl _ _).alloc (Nat.le_refl _) _)) w2.heap.size 7 (heap_alloc_new _ _) (by decide) (by simp; omega) 39
  obtain ⟨p3, c3, rfl, hc3, hs3, hp3⟩ := hB3.form
  have hb23 : Below W.heap.size W w3 := (hb2.trans ((Below.refl _ _).alloc hz2 _)).trans hb3
  have HR3 : Hid ((Builtin.append_ #[39, 39] 39 #[.slice p2 3 c2, .slice (some ⟨w2.heap.size, 0, none⟩) 1 1]).run Try.prog (w2.alloc (.cells #[.int .u8 7] 5)) = .ok (.slice p3 4 c3) w3) := hr3
  have hG := get_any [16, 1, 3, 7] p3 c3 w3 hs3 hc3 hp3 (by decide)
  rw [f1_get] at hG
  have HG : Hid (Calls Try.prog 22 #[.slice p3 4 c3] w3 (PostG w3 (.ok ((16, 0, f1), [7])))) := hG
  clear hr3 hG
  clear t0 t1 t2 hW1 hW
  go_wp2_with (first | (at_builtin; refine wpList_append_run rfl _ _ 39 39 rfl _ _ _ rfl rfl HR3.out ?_))
  refine HG.out.mono ?_
  rintro e w4 ⟨hb4, q4, c4, p4, cap4, rfl, hsl4, hs4, hcap4, hp4⟩
  simp only at hsl4 hs4 hcap4 ⊢
  have hW4 : Below W.heap.size W w4 := hb23.trans (hb4.mono hb23.size)
  have bt4 := bt.below hW4
  have lt4 := bt4.lt
  obtain ⟨t0, t1, t2, _, _, _⟩ := bt4.facts
  go_wp2_with fail
  obtain ⟨w5, hw5⟩ : ∃ w5, w4.alloc (.cells #[.int .i64 16, .int .i64 0, .slice q4 (len f1) c4] 24) = w5 := ⟨_, rfl⟩
  have bu5 : Box w5 w4.heap.size (.int .i64 16) (.int .i64 0) (.slice q4 (len f1) c4) := by rw [← hw5]; exact Box.new _ _ _ _
  have hb45 : Below w4.heap.size w4 w5 := by rw [← hw5]; exact (Below.refl _ _).alloc (Nat.le_refl _) _
  have hW5 : Below W.heap.size W w5 := hW4.trans (hb45.mono hW4.size)
  rw [hw5]
  clear hw5
  have hD := decl_any [97] f1 16 0 (some ⟨w.heap.size, 0, none⟩) 1 f1 16 0 (some ⟨w.heap.size, 0, none⟩) 1 w5 (by decide) (by decide) (by decide) (hs.below hW5) (hs.below hW5)
  rw [f1_decl] at hD
  refine hD.mono ?_
  clear hD
  rintro e w6 ⟨v6, rfl, hB6, hb6⟩
  obtain ⟨p6, c6, rfl, hc6, hs6, _⟩ := hB6.form
  have hG := getDecl_any [1, 97, 16, 1, 3, 16, 1, 3] p6 c6 w6 hs6 hc6 (by decide)
  rw [f1_getD] at hG
  have HG2 : Hid (Calls Try.prog 24 #[.slice p6 8 c6] w6 (PostD w6 (.ok ([97], (16, 0, f1), (16, 0, f1))))) := hG
  clear hG
  rw [show ([1, 97, 16, 1, 3, 16, 1, 3] : List UInt8).length = 8 from rfl]
  go_wp2_with fail
  refine HG2.out.mono ?_
  rintro e w7 ⟨hb7, q7, c7, q8, c8, rfl, hsl7, hsl8⟩
  simp only at hsl7 hsl8 ⊢
  have hz45 := hb45.size
  have hz6 := hb6.size
  have hz7 := hb7.size
  have hb57 : Below w5.heap.size w5 w7 := hb6.trans (hb7.mono hz6)
  have hW7 : Below W.heap.size W w7 := hW5.trans (hb57.mono hW5.size)
  have hbw7 : Below w.heap.size w w7 := hbW.trans (hW7.mono hbW.size)
  obtain ⟨w8, hw8⟩ : ∃ w8, w7.alloc (.cells #[.string ⟨#[97]⟩, .int .i64 16, .int .i64 0, .slice q7 (len f1) c7, .int .i64 16, .int .i64 0, .slice q8 (len f1) c8] 38) = w8 := ⟨_, rfl⟩
  have bd8 : Box7 w8 w7.heap.size (.string ⟨#[97]⟩) (.int .i64 16) (.int .i64 0) (.slice q7 (len f1) c7) (.int .i64 16) (.int .i64 0) (.slice q8 (len f1) c8) := by rw [← hw8]; exact Box7.new _ _ _ _ _ _ _ _
  have hb78 : Below w7.heap.size w7 w8 := by rw [← hw8]; exact (Below.refl _ _).alloc (Nat.le_refl _) _
  have bt8 := (bt.below hW7).below hb78
  have bu8 := (bu5.below hb57).below hb78
  have hz8 := hb78.size
  have ss8 : Sl w8 q8 f1 := hsl8.sl.below hb78
  have su8 : Sl w8 q4 f1 := ((hsl4.sl.below hb45).below hb57).below hb78
  have st8 : Sl w8 (some ⟨w.heap.size, 0, none⟩) f1 := (hs.below hW7).below hb78
  obtain ⟨x0, x1, x2, _, _, _⟩ := bt8.facts
  obtain ⟨y0, y1, y2, _, _, _⟩ := bu8.facts
  obtain ⟨d0, d1, d2, d3, d4, d5, d6⟩ := bd8.facts
  have lt8 := bt8.lt
  have lu8 := bu8.lt
  have ld8 := bd8.lt
  clear t0 t1 t2
  go_wp2_with fail
  refine (rsame_any 5 f1 f1 16 0 16 0 _ q4 1 c4 w8 (by decide) (by decide) (by decide) st8 su8).mono ?_
  rintro e w9 ⟨rfl, hb9⟩
  rw [f1_same]
  have bt9 := bt8.below hb9
  have bd9 := bd8.below hb9 ld8
  have ss9 := ss8.below hb9
  have st9 := st8.below hb9
  have lt9 := bt9.lt
  have ld9 := bd9.lt
  clear x0 x1 x2 y0 y1 y2 d0 d1 d2 d3 d4 d5 d6 hw8
  obtain ⟨x0, x1, x2, _, _, _⟩ := bt9.facts
  obtain ⟨d0, d1, d2, d3, d4, d5, d6⟩ := bd9.facts
  go_wp2_with fail
  refine (rsame_any 5 f1 f1 16 0 16 0 q8 _ c8 1 w9 (by decide) (by decide) (by decide) ss9 st9).mono ?_
  rintro e w10 ⟨rfl, hb10⟩
  rw [f1_same]
  go_wp2_with fail
  go_ret
  have hz9 := hb9.size
  exact ⟨rfl, ((hbw7.trans (hb78.mono hbw7.size)).trans (hb9.mono (by have := hbw7.size; omega))).trans (hb10.mono (by have := hbw7.size; omega))⟩
end Go.Proofs.Ytcgpjihfligdbaa
