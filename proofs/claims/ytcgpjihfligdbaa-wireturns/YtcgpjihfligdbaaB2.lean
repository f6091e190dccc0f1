/-
  Term: bytes behind bytes.
-/
import Derived.Test.YtcgpjihfligdbaaB1
namespace Tmx
open Go Go.Deep Go.RowKit
/-- The term number i of a slice: its cells in a later world, its arguments where they were. -/
theorem Sl.at0 {W w : World} {q : Option Addr} {f : F} (hs : Sl W q f) (hb : Below W.heap.size W w) {i : Nat} (hi : i < len f) : ∃ b o k n p cap x y l r, q = some ⟨b, o, none⟩ ∧ drop i f = .node x y (k, n) l r ∧ b < W.heap.size ∧
    w.cell? ⟨b, o + i * 3, none⟩ = some (.int .i64 k) ∧ w.cell? ⟨b, o + i * 3 + 1, none⟩ = some (.int .i64 n) ∧ w.cell? ⟨b, o + i * 3 + 2, none⟩ = some (.slice p (len l) cap) ∧ Sl W p l := by
  obtain ⟨b, o, h1, h2⟩ := hs
  obtain ⟨x, y, a, l, r, p, cap, e, c1, c2, c3, hs⟩ := Row.at i f b o (h2) hi
  have hl := h2.lt (by omega)
  exact ⟨b, o, a.1, a.2, p, cap, x, y, l, r, h1 (by omega), e, hl, by rw [(bcell hb).1 _ _ hl]; exact c1, by rw [(bcell hb).1 _ _ hl]; exact c2, by rw [(bcell hb).1 _ _ hl]; exact c3, hs⟩
end Tmx
namespace Go.Proofs.Ytcgpjihfligdbaa
open Go.RowKit Tmx

/-- A row of bytes is no other block. -/
theorem bytes_other {lo : Nat} {w : World} {v : Value} {l : List UInt8} (h : BytesIn lo w v l) {B : Nat} {cs : Array Value} {t : TypeId} {fr : Nat × Nat} (hB : w.heap[B]? = some (.cells cs t fr)) (ht : t ≠ 5) : some B ≠ v.ownBlock := by
  obtain ⟨_, h2⟩ := h
  rcases h2 with ⟨rfl, _⟩ | ⟨g, cap, cur, rfl, _, hh, _⟩
  · simp [Value.ownBlock]
  · intro e
    have : B = g := by simpa [Value.ownBlock] using e
    subst this
    rw [hB] at hh
    simp only [Option.some.injEq, Obj.cells.injEq] at hh
    exact ht hh.2.1

/-- A number's byte is appended, where a term's box stands. -/
theorem byte_step {W : World} {lo T : Nat} {a b c v : Value} {l : List UInt8} (bx : Box W T a b c) (hv : BytesIn lo W v l) (x : Int) (hl : l.length ≤ 140737488355000) (hlo : lo ≤ W.heap.size) (H : Nat) (hH : W.heap.size = H) :
    ∃ v1 w1, (Builtin.append_ #[39, 39] 39 #[v, .slice (some ⟨H, 0, none⟩) 1 1]).run Try.prog (W.alloc (.cells #[.int .u8 (IntKind.u8.wrap x)] 5)) = .ok v1 w1 ∧ BytesIn lo w1 v1 (l ++ [b8 x]) ∧ Box w1 T a b c ∧ Below lo W w1 := by
  subst hH
  rw [wrap8]
  have hv1 : BytesIn lo (W.alloc (.cells #[.int .u8 ((b8 x).toNat : Int)] 5)) v l := hv.below ((Below.refl _ _).alloc (Nat.le_refl _) _)
  obtain ⟨v1, w1, hr1, hB1, hg1, hb1⟩ := append_byte _ lo v l hv1 W.heap.size (b8 x) (heap_alloc_new _ _) hl (by simp; omega) 39
  have bx1 := bx.alloc (.cells #[.int .u8 ((b8 x).toNat : Int)] 5)
  refine ⟨v1, w1, hr1, hB1, bx1.of_block (hg1.block T bx1.lt (bytes_other hv1 bx1 (by decide))), ?_⟩
  exact ((Below.refl _ _).alloc hlo _).trans hb1

set_option maxHeartbeats 1000000 in
theorem term_any (m : Nat) : ∀ (f : F) (k n : Int) (q : Option Addr) (cap : Nat) (w0 w : World) (lo : Nat) (v : Value) (l : List UInt8), size f < m → l.length + 2 * size f + 2 ≤ 1000000 → Sl w0 q f → Below w0.heap.size w0 w → w0.heap.size ≤ lo → lo ≤ w.heap.size → BytesIn lo w v l →
    Calls Try.prog 23 #[v, .agg #[.int .i64 k, .int .i64 n, .slice q (len f) cap]] w fun e w' => ∃ v', e = .returned v' ∧ BytesIn lo w' v' (l ++ bytesT k n f) ∧ Below lo w w' := by
  induction m with
  | zero => intro f k n q cap w0 w lo v l h; omega
  | succ m ih =>
    intro f k n q cap w0 w lo v l hm hB hs hW hlo0 hlo hv
    have H : Hid (∀ (f : F) (k n : Int) (q : Option Addr) (cap : Nat) (w0 w : World) (lo : Nat) (v : Value) (l : List UInt8), size f < m → l.length + 2 * size f + 2 ≤ 1000000 → Sl w0 q f → Below w0.heap.size w0 w → w0.heap.size ≤ lo → lo ≤ w.heap.size → BytesIn lo w v l →
      Calls Try.prog 23 #[v, .agg #[.int .i64 k, .int .i64 n, .slice q (len f) cap]] w fun e w' => ∃ v', e = .returned v' ∧ BytesIn lo w' v' (l ++ bytesT k n f) ∧ Below lo w w') := ih
    clear ih
    have hls := len_le_size f
    have HB : Hid (l.length + 2 * size f + 2 ≤ 1000000) := hB
    -- the kind's byte
    obtain ⟨v1, w1, hr1, hB1, bx1, hb1⟩ := byte_step (Box.new w (.int .i64 k) (.int .i64 n) (.slice q (len f) cap)) (hv.below ((Below.refl _ _).alloc (Nat.le_refl _) _)) k (by omega) (by simp; omega) (w.heap.size + 1) (by simp)
    have HR1 : Hid ((Builtin.append_ #[39, 39] 39 #[v, .slice (some ⟨w.heap.size + 1, 0, none⟩) 1 1]).run Try.prog ((w.alloc (.cells #[.int .i64 k, .int .i64 n, .slice q (len f) cap] 24)).alloc (.cells #[.int .u8 (IntKind.u8.wrap k)] 5)) = .ok v1 w1) := hr1
    clear hr1 hv
    have hb01 : Below lo w w1 := ((Below.refl _ _).alloc hlo _).trans hb1
    clear hb1
    have hz1 := hb01.size
    obtain ⟨c0, c1, c2, _, _, _⟩ := bx1.facts
    cases tn : numb k
    · have HH : Hid (headB k n = [b8 k]) := by show _ = _; unfold headB; rw [tn]; rfl
      have hBx : BytesIn lo w1 v1 (l ++ headB k n) := by rw [HH.out]; exact hB1
      have hbx := hb01
      clear hB1
      go_enter Try.func23, Try.ntmps23
      go_wp2_with (first | (at_builtin; refine wpList_append_run rfl _ _ 39 39 rfl _ _ _ rfl rfl HR1.out ?_))
      refine (hasN_any k _).mono ?_
      rintro e w' ⟨rfl, rfl⟩
      rw [tn]
      go_wp2_with fail
      go_loopw [0, 25] (fun b i wr => ∃ j : Nat, j ≤ len f ∧ i = .int .i64 j ∧ ∃ l' : List UInt8, BytesIn lo wr b l' ∧ Hid (l' ++ bytesF (drop j f) = l ++ bytesT k n f) ∧ l'.length + 2 * size (drop j f) ≤ l.length + 2 * size f + 2 ∧ Below lo w wr) (fun _ i _ => len f - (intOf i).toNat)
      case atStart => exact ⟨0, Nat.zero_le _, rfl, _, hBx, by show _ = _; rw [drop, bytesT, List.append_assoc], by have := headB_len k n; rw [drop, List.length_append]; omega, hbx⟩
      case round =>
        clear hBx hbx
        obtain ⟨j, hj, rfl, l', hl', HL, hlen, hb⟩ := hrel
        have hzr := hb.size
        by_cases hlt : j < len f
        · obtain ⟨b', o, k', n', p, cap', x, y, lf, r, rfl, e, hbl, c1', c2', c3', hsl⟩ := hs.at0 (hW.trans (hb.mono hlo0)) hlt
          have hd := drop_succ j f _ _ _ _ _ e
          have he : size (drop j f) = size lf + size r + 1 := by rw [e, size]
          have E : Hid (drop j f = .node x y (k', n') lf r ∧ drop (j + 1) f = r ∧ size (drop j f) = size lf + size r + 1) := ⟨e, hd, he⟩
          have hz := size_drop j f
          have hz2 : size lf + size r + 1 ≤ size f ∧ l'.length + 2 * (size lf + size r + 1) ≤ l.length + 2 * size f + 2 := by rw [← he]; exact ⟨hz, hlen⟩
          clear e hd he hz hlen
          go_wp2_with fail
          refine (H.out lf k' n' p cap' w0 _ lo _ l' (by omega) (by omega) hsl ((hW.trans (hb.mono hlo0)).trans ((Below.refl _ _).alloc (by omega) _)) hlo0 (by simp; omega) (hl'.below ((Below.refl _ _).alloc (Nat.le_refl _) _))).mono ?_
          rintro e w3 ⟨v3, rfl, hB3, hb3⟩
          go_wp2_with fail
          go_roundw
          case rel =>
            refine ⟨j + 1, hlt, by go_num, _, hB3, ?_, ?_, hb.trans (((Below.refl _ _).alloc (by omega) _).trans hb3)⟩
            · have h1 := HL.out
              rw [E.out.1, bytesF_node] at h1
              show _ = _
              rw [E.out.2.1, ← h1, List.append_assoc]
            · rw [E.out.2.1, List.length_append]
              have := bytesT_len k' n' lf
              omega
          case measure => simp [intOf]; omega
        · go_wp2
          go_ret
          have : j = len f := by omega
          subst this
          have h1 := HL.out
          rw [drop_len, bytesF, List.append_nil] at h1
          rw [← h1]
          exact ⟨_, rfl, hl', hb⟩
    · have HH : Hid (headB k n = [b8 k] ++ [b8 n]) := by show _ = _; unfold headB; rw [tn]; rfl
      obtain ⟨v2, w2, hr2, hB2, bx2, hb2⟩ := byte_step bx1 hB1 n (by simp; omega) (by omega) w1.heap.size rfl
      have HR2 : Hid ((Builtin.append_ #[39, 39] 39 #[v1, .slice (some ⟨w1.heap.size, 0, none⟩) 1 1]).run Try.prog (w1.alloc (.cells #[.int .u8 (IntKind.u8.wrap n)] 5)) = .ok v2 w2) := hr2
      clear hr2
      obtain ⟨d0, d1, d2, _, _, _⟩ := bx2.facts
      have hBx : BytesIn lo w2 v2 (l ++ headB k n) := by rw [HH.out, ← List.append_assoc]; exact hB2
      have hbx : Below lo w w2 := hb01.trans hb2
      clear hB1 hB2
      go_enter Try.func23, Try.ntmps23
      go_wp2_with (first | (at_builtin; refine wpList_append_run rfl _ _ 39 39 rfl _ _ _ rfl rfl HR1.out ?_))
      refine (hasN_any k _).mono ?_
      rintro e w' ⟨rfl, rfl⟩
      rw [tn]
      go_wp2_with (first | (at_builtin; refine wpList_append_run rfl _ _ 39 39 rfl _ _ _ rfl rfl HR2.out ?_))
      go_loopw [0, 25] (fun b i wr => ∃ j : Nat, j ≤ len f ∧ i = .int .i64 j ∧ ∃ l' : List UInt8, BytesIn lo wr b l' ∧ Hid (l' ++ bytesF (drop j f) = l ++ bytesT k n f) ∧ l'.length + 2 * size (drop j f) ≤ l.length + 2 * size f + 2 ∧ Below lo w wr) (fun _ i _ => len f - (intOf i).toNat)
      case atStart => exact ⟨0, Nat.zero_le _, rfl, _, hBx, by show _ = _; rw [drop, bytesT, List.append_assoc], by have := headB_len k n; rw [drop, List.length_append]; omega, hbx⟩
      case round =>
        clear hBx hbx
        obtain ⟨j, hj, rfl, l', hl', HL, hlen, hb⟩ := hrel
        have hzr := hb.size
        by_cases hlt : j < len f
        · obtain ⟨b', o, k', n', p, cap', x, y, lf, r, rfl, e, hbl, c1', c2', c3', hsl⟩ := hs.at0 (hW.trans (hb.mono hlo0)) hlt
          have hd := drop_succ j f _ _ _ _ _ e
          have he : size (drop j f) = size lf + size r + 1 := by rw [e, size]
          have E : Hid (drop j f = .node x y (k', n') lf r ∧ drop (j + 1) f = r ∧ size (drop j f) = size lf + size r + 1) := ⟨e, hd, he⟩
          have hz := size_drop j f
          have hz2 : size lf + size r + 1 ≤ size f ∧ l'.length + 2 * (size lf + size r + 1) ≤ l.length + 2 * size f + 2 := by rw [← he]; exact ⟨hz, hlen⟩
          clear e hd he hz hlen
          go_wp2_with fail
          refine (H.out lf k' n' p cap' w0 _ lo _ l' (by omega) (by omega) hsl ((hW.trans (hb.mono hlo0)).trans ((Below.refl _ _).alloc (by omega) _)) hlo0 (by simp; omega) (hl'.below ((Below.refl _ _).alloc (Nat.le_refl _) _))).mono ?_
          rintro e w3 ⟨v3, rfl, hB3, hb3⟩
          go_wp2_with fail
          go_roundw
          case rel =>
            refine ⟨j + 1, hlt, by go_num, _, hB3, ?_, ?_, hb.trans (((Below.refl _ _).alloc (by omega) _).trans hb3)⟩
            · have h1 := HL.out
              rw [E.out.1, bytesF_node] at h1
              show _ = _
              rw [E.out.2.1, ← h1, List.append_assoc]
            · rw [E.out.2.1, List.length_append]
              have := bytesT_len k' n' lf
              omega
          case measure => simp [intOf]; omega
        · go_wp2
          go_ret
          have : j = len f := by omega
          subst this
          have h1 := HL.out
          rw [drop_len, bytesF, List.append_nil] at h1
          rw [← h1]
          exact ⟨_, rfl, hl', hb⟩
end Go.Proofs.Ytcgpjihfligdbaa
