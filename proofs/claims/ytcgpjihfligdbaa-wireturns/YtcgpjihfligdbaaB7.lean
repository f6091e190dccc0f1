/-
  Decl: a declaration's bytes.
-/
import Derived.Test.YtcgpjihfligdbaaB2
import Derived.Deep.RegionHeld3
namespace Tmx
open Go Go.Deep Go.RowKit
/-- The block B is a declaration's seven cells. -/
def Box7 (w : World) (B : Nat) (s a b c a' b' c' : Value) : Prop := w.heap[B]? = some (.cells #[s, a, b, c, a', b', c'] 38 (0, 0))
theorem Box7.lt {w : World} {B : Nat} {s a b c a' b' c' : Value} (h : Box7 w B s a b c a' b' c') : B < w.heap.size := by
  obtain ⟨hlt, _⟩ := Array.getElem?_eq_some_iff.1 h
  exact hlt
theorem Box7.facts {w : World} {B : Nat} {s a b c a' b' c' : Value} (h : Box7 w B s a b c a' b' c') :
    w.cell? ⟨B, 0, none⟩ = some s ∧ w.cell? ⟨B, 1, none⟩ = some a ∧ w.cell? ⟨B, 2, none⟩ = some b ∧ w.cell? ⟨B, 3, none⟩ = some c ∧ w.cell? ⟨B, 4, none⟩ = some a' ∧ w.cell? ⟨B, 5, none⟩ = some b' ∧ w.cell? ⟨B, 6, none⟩ = some c' := by
  unfold Box7 at h
  simp [World.cell?, h]
theorem Box7.frozen {w : World} {B : Nat} {s a b c a' b' c' : Value} (h : Box7 w B s a b c a' b' c') :
    w.frozen? ⟨B, 0, none⟩ = false ∧ w.frozen? ⟨B, 1, none⟩ = false ∧ w.frozen? ⟨B, 2, none⟩ = false ∧ w.frozen? ⟨B, 3, none⟩ = false ∧ w.frozen? ⟨B, 4, none⟩ = false ∧ w.frozen? ⟨B, 5, none⟩ = false ∧ w.frozen? ⟨B, 6, none⟩ = false := by
  unfold Box7 at h
  simp [World.frozen?, h]
theorem Box7.new (w : World) (s a b c a' b' c' : Value) : Box7 (w.alloc (.cells #[s, a, b, c, a', b', c'] 38)) w.heap.size s a b c a' b' c' := blk_alloc_new _ _
theorem Box7.of_block {w w' : World} {B : Nat} {s a b c a' b' c' : Value} (h : Box7 w B s a b c a' b' c') (e : w'.heap[B]? = w.heap[B]?) : Box7 w' B s a b c a' b' c' := by
  unfold Box7
  rw [e]
  exact h
theorem Box7.below {w w' : World} {B lo : Nat} {s a b c a' b' c' : Value} (h : Box7 w B s a b c a' b' c') (hb : Below lo w w') (hB : B < lo) : Box7 w' B s a b c a' b' c' := h.of_block (hb.block _ hB)
theorem Box7.alloc {w : World} {B : Nat} {s a b c a' b' c' : Value} (h : Box7 w B s a b c a' b' c') (o : Obj) : Box7 (w.alloc o) B s a b c a' b' c' := h.of_block (Below.heap_alloc _ _ _ h.lt)
/-- Seven cells written anew. -/
theorem Box7.set {w : World} {B : Nat} {s a b c a' b' c' : Value} (h : Box7 w B s a b c a' b' c') (x0 x1 x2 x3 x4 x5 x6 : Value) :
    Box7 (((((((w.setCell ⟨B, 0, none⟩ x0).setCell ⟨B, 1, none⟩ x1).setCell ⟨B, 2, none⟩ x2).setCell ⟨B, 3, none⟩ x3).setCell ⟨B, 4, none⟩ x4).setCell ⟨B, 5, none⟩ x5).setCell ⟨B, 6, none⟩ x6) B x0 x1 x2 x3 x4 x5 x6 := by
  unfold Box7 at *
  simp [World.setCell, Array.getElem?_modify, h]
theorem below_set7 {lo B : Nat} {w w' : World} (h : Below lo w w') (hB : lo ≤ B) (x0 x1 x2 x3 x4 x5 x6 : Value) :
    Below lo w (((((((w'.setCell ⟨B, 0, none⟩ x0).setCell ⟨B, 1, none⟩ x1).setCell ⟨B, 2, none⟩ x2).setCell ⟨B, 3, none⟩ x3).setCell ⟨B, 4, none⟩ x4).setCell ⟨B, 5, none⟩ x5).setCell ⟨B, 6, none⟩ x6) :=
  ((((((h.setCell hB _).setCell hB _).setCell hB _).setCell hB _).setCell hB _).setCell hB _).setCell hB _
theorem SlF.set7 {lo B : Nat} {w : World} {p : Option Addr} {f : F} (h : SlF lo w p f) (hB : B < lo) (x0 x1 x2 x3 x4 x5 x6 : Value) :
    SlF lo (((((((w.setCell ⟨B, 0, none⟩ x0).setCell ⟨B, 1, none⟩ x1).setCell ⟨B, 2, none⟩ x2).setCell ⟨B, 3, none⟩ x3).setCell ⟨B, 4, none⟩ x4).setCell ⟨B, 5, none⟩ x5).setCell ⟨B, 6, none⟩ x6) p f :=
  ((((((h.setCell (x := ⟨B, 0, none⟩) hB _).setCell (x := ⟨B, 1, none⟩) hB _).setCell (x := ⟨B, 2, none⟩) hB _).setCell (x := ⟨B, 3, none⟩) hB _).setCell (x := ⟨B, 4, none⟩) hB _).setCell (x := ⟨B, 5, none⟩) hB _).setCell (x := ⟨B, 6, none⟩) hB _
end Tmx
namespace Go.Proofs.Ytcgpjihfligdbaa
open Go.RowKit Tmx

set_option maxHeartbeats 1000000 in
theorem decl_any (nm : List UInt8) (f : F) (k n : Int) (q : Option Addr) (cap : Nat) (f' : F) (k' n' : Int) (q' : Option Addr) (cap' : Nat) (w : World) (hn : nm.length ≤ 1000) (hf : size f ≤ 1000) (hf' : size f' ≤ 1000) (hs : Sl w q f) (hs' : Sl w q' f') :
    Calls Try.prog 25 #[.agg #[.string ⟨nm.toArray⟩, .int .i64 k, .int .i64 n, .slice q (len f) cap, .int .i64 k', .int .i64 n', .slice q' (len f') cap']] w fun e w' => ∃ v', e = .returned v' ∧ BytesIn w.heap.size w' v' (declB nm (k, n, f) (k', n', f')) ∧ Below w.heap.size w w' := by
  obtain ⟨lo, hlo⟩ : ∃ lo, lo = w.heap.size + 1 := ⟨_, rfl⟩
  have T1 : Hid (∀ (W : World) (v : Value), Below w.heap.size w W → lo ≤ W.heap.size → BytesIn lo W v (b8 nm.length :: nm) → Calls Try.prog 23 #[v, .agg #[.int .i64 k, .int .i64 n, .slice q (len f) cap]] W fun e w' => ∃ v', e = .returned v' ∧ BytesIn lo w' v' ((b8 nm.length :: nm) ++ bytesT k n f) ∧ Below lo W w') :=
    fun W v hW hl hv => term_any (size f + 1) f k n q cap w W lo v _ (by omega) (by simp; omega) hs hW (by omega) hl hv
  have T2 : Hid (∀ (W : World) (v : Value), Below w.heap.size w W → lo ≤ W.heap.size → BytesIn lo W v ((b8 nm.length :: nm) ++ bytesT k n f) → Calls Try.prog 23 #[v, .agg #[.int .i64 k', .int .i64 n', .slice q' (len f') cap']] W fun e w' => ∃ v', e = .returned v' ∧ BytesIn lo w' v' (declB nm (k, n, f) (k', n', f')) ∧ Below lo W w') :=
    fun W v hW hl hv => term_any (size f' + 1) f' k' n' q' cap' w W lo v _ (by omega) (by have := bytesT_len k n f; simp; omega) hs' hW (by omega) hl hv
  obtain ⟨W1, hW1⟩ : ∃ W1, w.alloc (.cells #[.string ⟨nm.toArray⟩, .int .i64 k, .int .i64 n, .slice q (len f) cap, .int .i64 k', .int .i64 n', .slice q' (len f') cap'] 38) = W1 := ⟨_, rfl⟩
  have bx1 : Box7 W1 w.heap.size (.string ⟨nm.toArray⟩) (.int .i64 k) (.int .i64 n) (.slice q (len f) cap) (.int .i64 k') (.int .i64 n') (.slice q' (len f') cap') := by rw [← hW1]; exact Box7.new _ _ _ _ _ _ _ _
  have hz1 : W1.heap.size = lo := by rw [← hW1, hlo]; simp
  have hb1 : Below w.heap.size w W1 := by rw [← hW1]; exact (Below.refl _ _).alloc (Nat.le_refl _) _
  obtain ⟨v1, w1, hr1, hB1, hb2⟩ := append_string (W1.alloc (.cells #[.int .u8 ((b8 nm.length).toNat : Int)] 5)) lo W1.heap.size (b8 nm.length) nm (heap_alloc_new _ _) (by omega) (by omega) (by simp; omega) 39
  rw [hz1, ← wrap8] at hr1
  have hbb : Below lo W1 w1 := ((Below.refl _ _).alloc (by omega) _).trans hb2
  have bx2 : Box7 w1 w.heap.size _ _ _ _ _ _ _ := bx1.below hbb (by omega)
  have hbw : Below w.heap.size w w1 := hb1.trans (hbb.mono (by omega))
  have hzw : lo ≤ w1.heap.size := by have := hbb.size; omega
  have HR : Hid ((Builtin.append_ #[39, 9] 39 #[.slice (some ⟨w.heap.size + 1, 0, none⟩) 1 1, .string ⟨nm.toArray⟩]).run Try.prog ((w.alloc (.cells #[.string ⟨nm.toArray⟩, .int .i64 k, .int .i64 n, .slice q (len f) cap, .int .i64 k', .int .i64 n', .slice q' (len f') cap'] 38)).alloc (.cells #[.int .u8 (IntKind.u8.wrap (nm.length : Int))] 5)) = .ok v1 w1) := by
    rw [hW1, ← hlo]
    exact hr1
  clear hr1 hW1
  obtain ⟨c0, c1, c2, c3, c4, c5, c6⟩ := bx2.facts
  have lx := bx2.lt
  have hsz : (ByteArray.size ⟨nm.toArray⟩) = nm.length := by simp [ByteArray.size]
  have HC1 : Hid (Calls Try.prog 23 #[v1, .agg #[.int .i64 k, .int .i64 n, .slice q (len f) cap]] w1.drew fun e w' => ∃ v', e = .returned v' ∧ BytesIn lo w' v' ((b8 nm.length :: nm) ++ bytesT k n f) ∧ Below lo w1 w') := T1.out w1.drew v1 hbw.drew hzw (hB1.along fun _ _ _ => rfl) |>.mono fun e w' ⟨v', h1, h2, h3⟩ => ⟨v', h1, h2, ⟨h3.os, h3.tape, h3.output, h3.size, h3.block⟩⟩
  go_enter Try.func25, Try.ntmps25
  go_wp2_with (first | (at_builtin; refine wpList_append_run rfl _ _ 39 9 rfl _ _ _ rfl rfl HR.out ?_))
  go_region_held3 (fun w' => w'.cell? ⟨w.heap.size, 1, none⟩ = some (.int .i64 k) ∧ w'.cell? ⟨w.heap.size, 2, none⟩ = some (.int .i64 n) ∧ w'.cell? ⟨w.heap.size, 3, none⟩ = some (.slice q (len f) cap) ∧ w'.cell? ⟨w.heap.size, 4, none⟩ = some (.int .i64 k') ∧ w'.cell? ⟨w.heap.size, 5, none⟩ = some (.int .i64 n') ∧ w'.cell? ⟨w.heap.size, 6, none⟩ = some (.slice q' (len f') cap')) (go_keep)
    (first
      | (go_at_call 23; with_reducible refine HC1.out.mono ?_; rintro e w2 ⟨v2, rfl, hB2, hb22⟩; have bx3 := bx2.below hb22 (by omega); have hzw2 := hb22.size; obtain ⟨d0, d1, d2, d3, d4, d5, d6⟩ := bx3.facts)
      | (go_at_call 23; refine (T2.out _ v2 (hbw.trans (hb22.mono (by omega))) (by omega) hB2).mono ?_; rintro e w3 ⟨v3, rfl, hB3, hb3⟩; have bx4 := bx3.below hb3 (by omega); obtain ⟨e0, e1, e2, e3, e4, e5, e6⟩ := bx4.facts))
  go_wp2_with fail
  go_ret
  exact ⟨v3, rfl, hB3.mono (by omega), (hbw.trans (hb22.mono (by omega))).trans (hb3.mono (by omega))⟩
end Go.Proofs.Ytcgpjihfligdbaa
