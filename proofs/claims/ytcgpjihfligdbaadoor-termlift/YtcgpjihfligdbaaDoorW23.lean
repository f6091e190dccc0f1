/-
  The texts that the first fact reads.
-/
import Derived.Test.YtcgpjihfligdbaaDoorW22
namespace Go.Proofs.YtcgpjihfligdbaaDoor
open Go.RowKit Tmx
set_option maxRecDepth 60000

theorem rd1 (W : World) : Calls Tryd.prog 36 #[.string ⟨#[40, 102, 110, 32, 110, 97, 116, 32, 110, 32, 40, 97, 32, 110, 41, 41]⟩, .slice (some ⟨W.heap.size, 0, none⟩) 2 2] (W.alloc (.cells #[.string ⟨#[97]⟩, .string ⟨#[98]⟩] 9)) fun e w' =>
    (∃ a c, e = .returned (.agg #[.int .i64 4, .int .i64 0, .slice a (len x1.2.2) c]) ∧ SlF W.heap.size w' a x1.2.2) ∧ Below W.heap.size W w' := by
  have hal := (Below.refl W.heap.size W).alloc (Nat.le_refl _) (.cells #[.string ⟨#[97]⟩, .string ⟨#[98]⟩] 9)
  refine Calls.mono (read_ok (W.alloc (.cells #[.string ⟨#[97]⟩, .string ⟨#[98]⟩] 9)) s1 [[97], [98]] (some ⟨W.heap.size, 0, none⟩) 2 x1 [] pl1 (by decide) (fun h => by cases h) (strs_lit _ W.heap.size _ (heap_alloc_new _ _)) p1 rfl) ?_
  rintro e w' ⟨⟨v, rfl, a, c, rfl, hs⟩, hb⟩
  exact ⟨⟨a, c, rfl, hs.mono (by simp)⟩, hal.trans (hb.mono (by simp))⟩

theorem rd2 (W : World) : Calls Tryd.prog 36 #[.string ⟨#[40, 102, 110, 32, 110, 97, 116, 32, 110, 32, 40, 97, 32, 110, 41, 41]⟩, .slice (some ⟨W.heap.size, 0, none⟩) 3 3] (W.alloc (.cells #[.string ⟨#[97]⟩, .string ⟨#[98]⟩, .string ⟨#[99]⟩] 9)) fun e w' =>
    (∃ a c, e = .returned (.agg #[.int .i64 4, .int .i64 0, .slice a (len x2.2.2) c]) ∧ SlF W.heap.size w' a x2.2.2) ∧ Below W.heap.size W w' := by
  have hal := (Below.refl W.heap.size W).alloc (Nat.le_refl _) (.cells #[.string ⟨#[97]⟩, .string ⟨#[98]⟩, .string ⟨#[99]⟩] 9)
  refine Calls.mono (read_ok (W.alloc (.cells #[.string ⟨#[97]⟩, .string ⟨#[98]⟩, .string ⟨#[99]⟩] 9)) s1 [[97], [98], [99]] (some ⟨W.heap.size, 0, none⟩) 3 x2 [] pl1 (by decide) (fun h => by cases h) (strs_lit _ W.heap.size _ (heap_alloc_new _ _)) p2 rfl) ?_
  rintro e w' ⟨⟨v, rfl, a, c, rfl, hs⟩, hb⟩
  exact ⟨⟨a, c, rfl, hs.mono (by simp)⟩, hal.trans (hb.mono (by simp))⟩

theorem rd3 (W : World) : Calls Tryd.prog 36 #[.string ⟨#[40, 98, 32, 97, 41]⟩, .slice (some ⟨W.heap.size, 0, none⟩) 2 2] (W.alloc (.cells #[.string ⟨#[98]⟩, .string ⟨#[97]⟩] 9)) fun e w' =>
    (∃ a c, e = .returned (.agg #[.int .i64 5, .int .i64 0, .slice a (len x3.2.2) c]) ∧ SlF W.heap.size w' a x3.2.2) ∧ Below W.heap.size W w' := by
  have hal := (Below.refl W.heap.size W).alloc (Nat.le_refl _) (.cells #[.string ⟨#[98]⟩, .string ⟨#[97]⟩] 9)
  refine Calls.mono (read_ok (W.alloc (.cells #[.string ⟨#[98]⟩, .string ⟨#[97]⟩] 9)) [40, 98, 32, 97, 41] [[98], [97]] (some ⟨W.heap.size, 0, none⟩) 2 x3 [] ⟨by decide, by decide⟩ (by decide) (fun h => by cases h) (strs_lit _ W.heap.size _ (heap_alloc_new _ _)) p3 rfl) ?_
  rintro e w' ⟨⟨v, rfl, a, c, rfl, hs⟩, hb⟩
  exact ⟨⟨a, c, rfl, hs.mono (by simp)⟩, hal.trans (hb.mono (by simp))⟩

theorem rd4 (W : World) : Calls Tryd.prog 36 #[.string ⟨#[98]⟩, .slice (some ⟨W.heap.size, 0, none⟩) 1 1] (W.alloc (.cells #[.string ⟨#[98]⟩] 9)) fun e w' =>
    (∃ a c, e = .returned (.agg #[.int .i64 1, .int .i64 0, .slice a (len x4.2.2) c]) ∧ SlF W.heap.size w' a x4.2.2) ∧ Below W.heap.size W w' := by
  have hal := (Below.refl W.heap.size W).alloc (Nat.le_refl _) (.cells #[.string ⟨#[98]⟩] 9)
  refine Calls.mono (read_ok (W.alloc (.cells #[.string ⟨#[98]⟩] 9)) [98] [[98]] (some ⟨W.heap.size, 0, none⟩) 1 x4 [] ⟨by decide, by decide⟩ (by decide) (fun h => by cases h) (strs_lit _ W.heap.size _ (heap_alloc_new _ _)) p4 rfl) ?_
  rintro e w' ⟨⟨v, rfl, a, c, rfl, hs⟩, hb⟩
  exact ⟨⟨a, c, rfl, hs.mono (by simp)⟩, hal.trans (hb.mono (by simp))⟩

theorem rd5 (W : World) : Calls Tryd.prog 36 #[.string ⟨#[40, 98, 32, 98, 41]⟩, .slice (some ⟨W.heap.size, 0, none⟩) 1 1] (W.alloc (.cells #[.string ⟨#[98]⟩] 9)) fun e w' =>
    (∃ a c, e = .returned (.agg #[.int .i64 5, .int .i64 0, .slice a (len x5.2.2) c]) ∧ SlF W.heap.size w' a x5.2.2) ∧ Below W.heap.size W w' := by
  have hal := (Below.refl W.heap.size W).alloc (Nat.le_refl _) (.cells #[.string ⟨#[98]⟩] 9)
  refine Calls.mono (read_ok (W.alloc (.cells #[.string ⟨#[98]⟩] 9)) [40, 98, 32, 98, 41] [[98]] (some ⟨W.heap.size, 0, none⟩) 1 x5 [] ⟨by decide, by decide⟩ (by decide) (fun h => by cases h) (strs_lit _ W.heap.size _ (heap_alloc_new _ _)) p5 rfl) ?_
  rintro e w' ⟨⟨v, rfl, a, c, rfl, hs⟩, hb⟩
  exact ⟨⟨a, c, rfl, hs.mono (by simp)⟩, hal.trans (hb.mono (by simp))⟩
end Go.Proofs.YtcgpjihfligdbaaDoor
