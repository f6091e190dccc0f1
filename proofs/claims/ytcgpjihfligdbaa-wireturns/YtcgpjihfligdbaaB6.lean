/-
  Get: the term that bytes begin with, and a copy of what is behind it.
-/
import Derived.Test.YtcgpjihfligdbaaB5
import Derived.Deep.RegionHeld3
namespace Go.Proofs.Ytcgpjihfligdbaa
open Go.RowKit Tmx

set_option maxHeartbeats 1000000 in
theorem clone_any (l : List UInt8) (p : Option Addr) (cap : Nat) (w : World) (hs : Bs w p l) (hp : p = none → cap = 0) (hl : l.length ≤ 140737488355328) :
    Calls Try.prog 48 #[.slice p l.length cap] w fun e w' => ∃ p' cap', e = .returned (.slice p' l.length cap') ∧ BytesIn w.heap.size w' (.slice p' l.length cap') l ∧ Below w.heap.size w w' := by
  cases p with
  | none =>
    obtain rfl : l = [] := by
      obtain ⟨b, o, h1, _⟩ := hs
      cases l with
      | nil => rfl
      | cons x m => exact absurd (h1 (by simp)) (by simp)
    clear hp
    simp only [List.length_nil] at hl ⊢
    have hnil : ∀ W : World, (binOp .eql 39 (.slice none 0 cap) (.slice none 0 0)).run Try.prog W = .ok (.bool true) W := fun _ => by kernel_rfl
    go_enter Try.func48, Try.ntmps48
    go_wp2
    go_ret
    exact ⟨none, 0, rfl, BytesIn.nil _ _, Below.refl _ _⟩
  | some a =>
    clear hp
    have hown : BytesIn w.heap.size (w.alloc (.cells #[] 5)) (.slice (some ⟨w.heap.size, 0, none⟩) 0 0) [] := ⟨rfl, .inr ⟨w.heap.size, 0, #[], rfl, Nat.le_refl _, heap_alloc_new _ _, Nat.le_refl _, by decide, rfl, rfl⟩⟩
    obtain ⟨v', w', hr, hB, _, hb⟩ := append_bytes (w.alloc (.cells #[] 5)) w.heap.size _ [] hown (some a) cap l (hs.below ((Below.refl _ _).alloc (Nat.le_refl _) _)) (fun h => by simp at h) (by simpa using hl) (by simp) 39
    rw [List.nil_append] at hB
    obtain ⟨p', cap', rfl, _, _, hp'⟩ := hB.form
    have HR : Hid ((Builtin.append_ #[39, 39] 39 #[.slice (some ⟨w.heap.size, 0, none⟩) 0 0, .slice (some a) l.length cap]).run Try.prog (w.alloc (.cells #[] 5)) = .ok (.slice p' l.length cap') w') := hr
    clear hr hp'
    have hnil : ∀ W : World, (binOp .eql 39 (.slice (some a) l.length cap) (.slice none 0 0)).run Try.prog W = .ok (.bool false) W := fun _ => by kernel_rfl
    go_enter Try.func48, Try.ntmps48
    go_wp2_with (first | (at_builtin; refine wpList_append_run rfl _ _ 39 39 rfl _ _ _ rfl rfl HR.out ?_))
    go_ret
    exact ⟨p', cap', rfl, hB, ((Below.refl _ _).alloc (Nat.le_refl _) _).trans hb⟩

/-- What Get answers. -/
def PostG (w : World) (R : GotT) (e : Ending) (w' : World) : Prop := Below w.heap.size w w' ∧ match R with
  | .error x => e = .returned (.tuple #[.agg #[.int .i64 0, .int .i64 0, .slice none 0 0], .slice none 0 0, .int .i64 x]) ∧ x ≠ 0
  | .ok y => ∃ q c p' cap', e = .returned (.tuple #[.agg #[.int .i64 y.1.1, .int .i64 y.1.2.1, .slice q (len y.1.2.2) c], .slice p' y.2.length cap', .int .i64 0]) ∧ SlF w.heap.size w' q y.1.2.2 ∧ Bs w' p' y.2 ∧ y.2.length ≤ cap' ∧ (p' = none → cap' = 0)

/-- What is read is no longer than what there was. -/
theorem getT_rest {d : Nat} {l r : List UInt8} {x : Int × Int × F} (h : getT d l = .ok (x, r)) : r.length ≤ l.length := by
  have := getT_back d l x r h
  rw [this, List.length_append]
  omega

set_option maxHeartbeats 1000000 in
theorem get_any (l : List UInt8) (p : Option Addr) (cap : Nat) (w : World) (hs : Bs w p l) (hcap : l.length ≤ cap) (hp : p = none → cap = 0) (hl : l.length ≤ 140737488355328) :
    Calls Try.prog 22 #[.slice p l.length cap] w (PostG w (getT 24 l)) := by
  obtain ⟨R, hR⟩ : ∃ R, getT 24 l = R := ⟨_, rfl⟩
  rw [hR]
  have HL : Hid (∀ x r, R = .ok (x, r) → r.length ≤ 140737488355328) := fun x r h => by have := getT_rest (hR.trans h); omega
  have HC : Hid (∀ (W : World), Below w.heap.size w W → Calls Try.prog 47 #[.slice p l.length cap, .int .i64 0] W (PostT w W R)) := fun W hb => by
    rw [← hR, show (0 : Int) = 24 - ((24 : Nat) : Int) by omega]
    exact take_all 24 (by omega) l p cap w W hs hb hcap hp
  clear hR hp
  have br0 := Box.new w (.int .i64 0) (.int .i64 0) (.slice none 0 0)
  have hb0 : Below w.heap.size w (w.alloc (.cells #[.int .i64 0, .int .i64 0, .slice none 0 0] 24)) := (Below.refl _ _).alloc (Nat.le_refl _) _
  have hz0 : (w.alloc (.cells #[.int .i64 0, .int .i64 0, .slice none 0 0] 24)).heap.size = w.heap.size + 1 := by simp
  go_enter Try.func22, Try.ntmps22
  go_wp2_with fail
  refine (HC.out _ hb0).mono ?_
  clear HC
  rintro e w1 ⟨hb1, hr⟩
  have br1 := br0.below hb1
  have hbw1 : Below w.heap.size w w1 := hb0.trans (hb1.mono (by omega))
  obtain ⟨k0, k1, k2, m0, m1, m2⟩ := br1.facts
  have lr := br1.lt
  rcases R with x | ⟨⟨yk, yn, yf⟩, yr⟩
  · obtain ⟨rfl, hx⟩ := hr
    have tx : (x != 0) = true := by simpa using hx
    go_wp2_with fail
    obtain ⟨e0, e1, e2, _, _, _⟩ := ((br1.set (.int .i64 0) (.int .i64 0) (.slice none 0 0)).alloc (.cells #[.int .i64 0, .int .i64 0, .slice none 0 0] 24)).facts
    refine bodyPost_ret (v := .tuple #[.agg #[.int .i64 0, .int .i64 0, .slice none 0 0], .slice none 0 0, .int .i64 x]) (by simp [results, Try.results22, go_sem, e0, e1, e2]) rfl ⟨?_, rfl, hx⟩
    exact (((hbw1.setCell (Nat.le_refl _) _).setCell (Nat.le_refl _) _).setCell (Nat.le_refl _) _).alloc (by simp [World.setCell]; omega) _
  · obtain ⟨q, cc, p2, cap2, rfl, hsl, hs2, hcap2, hp2⟩ := hr
    have HP2 : Hid (p2 = none → cap2 = 0) := hp2
    clear hp2
    have hyl := HL.out _ _ rfl
    clear HL
    go_wp2_with fail
    obtain ⟨w2, hw2⟩ : ∃ w2, w1.alloc (.cells #[.int .i64 yk, .int .i64 yn, .slice q (len yf) cc] 24) = w2 := ⟨_, rfl⟩
    have hb12 : Below w1.heap.size w1 w2 := by rw [← hw2]; exact (Below.refl _ _).alloc (Nat.le_refl _) _
    have bu2 : Box w2 w1.heap.size (.int .i64 yk) (.int .i64 yn) (.slice q (len yf) cc) := by rw [← hw2]; exact Box.new _ _ _ _
    have br2 := br1.below hb12
    have hz2 := hb12.size
    rw [hw2]
    clear hw2
    have hs22 : Bs w2 p2 yr := hs2.below (hbw1.trans (hb12.mono hbw1.size))
    obtain ⟨a0, a1, a2, _, _, _⟩ := bu2.facts
    obtain ⟨r0, r1, r2, s0, s1, s2⟩ := br2.facts
    have lr2 := br2.lt
    have lu2 := bu2.lt
    go_region_with (first | (go_at_call 48; refine (clone_any yr p2 cap2 _ hs22.drew HP2.out hyl).mono ?_; rintro e w3 ⟨p3, cap3, rfl, hs3, hb3⟩; have bu3 := Box.below (w := w2.drew) bu2 hb3; have br3 := Box.below (w := w2.drew) br2 hb3; obtain ⟨t0, t1, t2, _, _, _⟩ := bu3.facts; obtain ⟨v0, v1, v2, x0, x1, x2⟩ := br3.facts))
    all_goals
      have hb23 : Below w2.heap.size w2 w3 := undrew hb3
      have hbw3 : Below w.heap.size w w3 := (hbw1.trans (hb12.mono hbw1.size)).trans (hb23.mono (by omega))
      go_wp2_with fail
      obtain ⟨e0, e1, e2, _, _, _⟩ := (br3.set (.int .i64 yk) (.int .i64 yn) (.slice q (len yf) cc)).facts
      have hs4 : BytesIn w2.heap.size (((w3.setCell ⟨w.heap.size, 0, none⟩ (.int .i64 yk)).setCell ⟨w.heap.size, 1, none⟩ (.int .i64 yn)).setCell ⟨w.heap.size, 2, none⟩ (.slice q (len yf) cc)) (.slice p3 yr.length cap3) yr := BytesIn.along (w := w3) hs3 fun b hb _ => by
        have hne : b ≠ w.heap.size := by have : w2.heap.size ≤ b := hb
                                         omega
        rw [Below.heap_setCell _ _ _ _ hne, Below.heap_setCell _ _ _ _ hne, Below.heap_setCell _ _ _ _ hne]
      obtain ⟨n1, n2, n3⟩ := hs4.facts
      refine bodyPost_ret (v := .tuple #[.agg #[.int .i64 yk, .int .i64 yn, .slice q (len yf) cc], .slice p3 yr.length cap3, .int .i64 0]) (by simp [results, Try.results22, go_sem, e0, e1, e2]) rfl ⟨?_, q, cc, p3, cap3, rfl, ?_, n2, n1, n3⟩
      · exact ((hbw3.setCell (Nat.le_refl _) _).setCell (Nat.le_refl _) _).setCell (Nat.le_refl _) _
      · have h1 := (hsl.below hb12).below hb23
        exact (((h1.setCell (x := ⟨w.heap.size, 0, none⟩) (by show w.heap.size < _; omega) _).setCell (x := ⟨w.heap.size, 1, none⟩) (by show w.heap.size < _; omega) _).setCell (x := ⟨w.heap.size, 2, none⟩) (by show w.heap.size < _; omega) _).mono (by omega)
end Go.Proofs.Ytcgpjihfligdbaa
