/-
  Contracts of package canon: value, of numbers and pairs.
-/
/-
  Contracts of package canon: all.
-/
/-
  Contracts of package canon: all.
-/
/-
  Package canon: what Show writes, of numbers below a hundred, and pairs.
-/
import Derived.Test.YthfjmcomhccbaaaGreatDoorTS0m
import Derived.Deep.RegionHeld3
import Derived.Test.YthfjmcomhccbaaaGreatDoorT4m
namespace Go.Proofs.YthfjmcomhccbaaaGreatDoor
open Go.Shelf Go.RowKit Tmx Evx
set_option maxRecDepth 60000

set_option maxHeartbeats 8000000 in
theorem value_nat (s m : Nat) (hm : m ≤ 1000000) (bs bt qv : Nat) (v : V) (t : Th) (n : Int) (out : List UInt8) (L : List Itm) (g0 g : Gh) (w0 w : World) (hs : Ste g0 w0 g w) (hH : ShAt g w0 w bs out L) (hv : g.v qv = some v) (ht : g.l bt = some t)
    (hk : v.is 14 0 = true) (hn : numV s m t = some n) (hlt : n < 100) (ho : out.length ≤ 100000) :
    Calls Tryz.prog 25 #[ptr bs, ptr bt, ptr qv] w fun e w' => e = .returned (.tuple #[]) ∧ ShP g0 w0 g bs (out ++ Lib.itoa n) L w' := by
  have hn0 : 0 ≤ n := by
    unfold numV at hn
    cases e : ev s t with
    | none => rw [e] at hn; cases hn
    | some v' => rw [e] at hn; exact (numOfV_nn s m v' n hn).1
  obtain ⟨u, rfl⟩ := Int.eq_ofNat_of_zero_le hn0
  have HI0 : Calls Tryz.prog 21 #[.pointer (some ⟨qv, 0, none⟩), .int .i64 14, .int .i64 0] w fun e w' => e = .returned (.bool true) ∧ w' = w := by
    rw [← hk]; exact is_any qv v 14 0 g w hs.inv hv
  have HC := count_lat s m bt t (u : Int) g w hs.inv ht hn hm
  have HS := (show Hid _ from And.intro hs (And.intro hH (And.intro hlt ho)))
  unfold ptr at *
  clear hs hH hv ht hk hn hlt ho hn0
  go_enter Tryz.func25, Tryz.ntmps25
  go_wp2_with fail
  refine HI0.mono ?_
  rintro e wq ⟨rfl, rfl⟩
  go_wp2_with fail
  refine HC.mono ?_
  rintro e w2 ⟨g2, rfl, hs2⟩
  obtain ⟨vo, vl, hI⟩ := HS.out.2.1.ste hs2
  obtain ⟨c0, c1, f0, f1⟩ := hI.blk.two
  have hlo : w0.heap.size ≤ w2.heap.size := Nat.le_trans HS.out.1.keep.size hs2.keep.size
  have HA := appendInt_any u (by have := HS.out.2.2.1; omega) w0.heap.size vo out w2 hI.out HS.out.2.2.2 hlo
  have HX := (show Hid _ from And.intro hs2 hI)
  clear hs2 hI HC HI0
  go_wp2_with fail
  refine HA.mono ?_
  rintro e w3 ⟨v', rfl, h1, h2, h3⟩
  obtain ⟨po, co, rfl, _⟩ := BytesIn.form h1
  obtain ⟨ln, hln⟩ : ∃ ln, (out ++ Lib.itoa (u : Int)).length = ln := ⟨_, rfl⟩
  rw [hln] at h1 h3 ⊢
  clear hln
  have hp := sh_out (HS.out.1.trans HX.out.1) HX.out.2 (Below.refl _ _) h1 h2 h3
  obtain ⟨d0, d1, fd0, fd1⟩ := (HX.out.2.blk.of_eq (w' := w3) (h2.block bs HX.out.2.blk.lt fun e => by
    obtain ⟨_, cur, hc⟩ := ownsRow_blk HX.out.2.out e.symm
    exact HX.out.2.blk.ne hc (by decide) rfl)).two
  have HP := (show Hid _ from hp)
  clear hp h1 h2 h3 HA
  go_wp2_with fail
  refine bodyPost_end (v := .tuple #[]) (by simp [results, Tryz.results25, go_sem]) rfl ⟨rfl, g2, HP.out.1, HX.out.1.le.l, HX.out.1.le.v, _, _, HP.out.2⟩

theorem is_others {v : V} (h : v.is 6 2 = true) : v.is 14 0 = false ∧ v.is 10 0 = false ∧ v.is 3 2 = false := by
  unfold Nd.is at *
  simp only [Bool.and_eq_true, beq_iff_eq] at h
  rw [h.1]
  exact ⟨rfl, rfl, rfl⟩

set_option maxHeartbeats 8000000 in
theorem value_sig (bs bt qv : Nat) (v : V) (t a b : Th) (out : List UInt8) (L : List Itm) (g0 g : Gh) (w0 w : World) (hs : Ste g0 w0 g w) (hH : ShAt g w0 w bs out L) (hv : g.v qv = some v) (ht : g.l bt = some t)
    (hk : v.is 6 2 = true) (ha : argV v 0 [] = some a) (hb : argV v 1 [.of (.mk 8 0 [.plain t])] = some b) (hL : L.length ≤ 100000) :
    Calls Tryz.prog 25 #[ptr bs, ptr bt, ptr qv] w fun e w' => e = .returned (.tuple #[]) ∧ ShP g0 w0 g bs out (L ++ [.inl [41], .inr (.of (.mk 9 0 [.plain t]), b), .inl [44, 32], .inr (.of (.mk 8 0 [.plain t]), a), .inl [40]]) w' := by
  have h14 : v.is 14 0 = false ∧ v.is 10 0 = false ∧ v.is 3 2 = false := is_others hk
  have HI : ∀ (k : Int) (n : Nat) r, v.is k n = r → Calls Tryz.prog 21 #[.pointer (some ⟨qv, 0, none⟩), .int .i64 k, .int .i64 (n : Int)] w fun e w' => e = .returned (.bool r) ∧ w' = w := fun k n r h => by
    rw [← h]; exact is_any qv v k n g w hs.inv hv
  have I0 := HI 14 0 false h14.1
  have I1 := HI 10 0 false h14.2.1
  have I2 := HI 3 2 false h14.2.2
  have I3 := HI 6 2 true hk
  have HP := pair_any bs bt qv v t a b out L g0 g w0 w hs hH hv ht ha hb hL
  unfold ptr at *
  clear hs hH hv ht hk ha hb hL HI h14
  go_enter Tryz.func25, Tryz.ntmps25
  go_wp2_with fail
  refine I0.mono ?_
  rintro e wq ⟨rfl, rfl⟩
  go_wp2_with fail
  refine I1.mono ?_
  rintro e wq ⟨rfl, rfl⟩
  go_wp2_with fail
  refine I2.mono ?_
  rintro e wq ⟨rfl, rfl⟩
  go_wp2_with fail
  refine I3.mono ?_
  rintro e wq ⟨rfl, rfl⟩
  go_wp2_with fail
  refine HP.mono ?_
  rintro e w2 ⟨rfl, h2⟩
  have H2 := (show Hid _ from h2)
  clear h2 HP
  go_wp2_with fail
  refine bodyPost_end (v := .tuple #[]) (by simp [results, Tryz.results25, go_sem]) rfl ⟨rfl, H2.out⟩
end Go.Proofs.YthfjmcomhccbaaaGreatDoor

namespace Go.Proofs.YthfjmcomhccbaaaGreatDoor
open Go.Shelf Go.RowKit Tmx Evx
set_option maxRecDepth 60000

/-- What these come to, as a text, in k rounds at most: numbers below a hundred, and pairs. -/
def outV (s m : Nat) : Nat → List Itm → Option (List UInt8)
  | 0, _ => none
  | _ + 1, [] => some []
  | k + 1, .inl b :: r => (outV s m k r).map (b ++ ·)
  | k + 1, .inr t :: r => match ev s t.2 with
    | none => none
    | some v => if v.is 14 0 then (match numV s m t.1 with
        | some n => if n < 100 then (outV s m k r).map (Lib.itoa n ++ ·) else none
        | none => none)
      else if v.is 6 2 then (match argV v 0 [], argV v 1 [.of (.mk 8 0 [.plain t.1])] with
        | some a, some b => outV s m k (.inl [40] :: .inr (.of (.mk 8 0 [.plain t.1]), a) :: .inl [44, 32] :: .inr (.of (.mk 9 0 [.plain t.1]), b) :: .inl [41] :: r)
        | _, _ => none)
      else none

theorem ShIn.form {g : Gh} {w0 w : World} {bs : Nat} {vo vl : Value} {out : List UInt8} {L : List Itm} (h : ShIn g w0 w bs vo vl out L) : ∃ p cap, vl = .slice p L.length cap := by
  obtain ⟨xs, ⟨_, h1⟩, _⟩ := h.left
  rcases h1 with ⟨e, h0⟩ | ⟨q, cap, _, e, _⟩
  · exact ⟨none, 0, by rw [e, h0]⟩
  · exact ⟨_, cap, e⟩
theorem row_lastP {w : World} {lo m : Nat} {v : Value} {xs ys : List Value} {x y z : Value} (h : w.ownsRow lo 56 3 v (m + 1) xs) (e : xs = ys ++ [x, y, z]) :
    ∃ q cap, v = .slice (some ⟨q, 0, none⟩) (m + 1) cap ∧ m + 1 ≤ cap ∧ w.cell? ⟨q, m * 3, none⟩ = some x ∧ w.cell? ⟨q, m * 3 + 1, none⟩ = some y ∧ w.cell? ⟨q, m * 3 + 2, none⟩ = some z ∧ (∀ i, w.frozen? ⟨q, i, none⟩ = false) ∧ lo ≤ q ∧ (∃ cur, Blk w q cur 56) ∧
      ∀ w1 : World, w1.heap[q]? = w.heap[q]? → ∀ a b c, (((w1.setCell ⟨q, m * 3, none⟩ a).setCell ⟨q, m * 3 + 1, none⟩ b).setCell ⟨q, m * 3 + 2, none⟩ c).ownsRow lo 56 3 (.slice (some ⟨q, 0, none⟩) m cap) m ys := by
  obtain ⟨hl, h1⟩ := h
  have hy : ys.length = m * 3 := by rw [e, List.length_append] at hl; simp only [List.length_cons, List.length_nil] at hl; omega
  rcases h1 with ⟨_, h0⟩ | ⟨q, cap, cur, ev, hlo, hh, hn, hm, hz, ht⟩
  · omega
  · have hcell : ∀ j, j < 3 → w.cell? ⟨q, m * 3 + j, none⟩ = [x, y, z][j]? := fun j hj => by
      rw [cell_of_row w q _ cur 56 (0, 0) hh]
      have h2 : xs[m * 3 + j]? = cur.toList[m * 3 + j]? := by rw [← ht, List.getElem?_take, if_pos (by omega)]
      rw [← Array.getElem?_toList, ← h2, e, List.getElem?_append_right (by omega), hy, Nat.add_sub_cancel_left]
    have hB : Blk w q cur 56 := hh
    refine ⟨q, cap, ev, hn, hcell 0 (by decide), hcell 1 (by decide), hcell 2 (by decide), hB.free, hlo, ⟨cur, hB⟩, fun w1 he a b c => ?_⟩
    have hB1 : w1.heap[q]? = some (.cells cur 56 (0, 0)) := by rw [he]; exact hh
    refine ⟨hy, .inr ⟨q, cap, ((cur.setIfInBounds (m * 3) a).setIfInBounds (m * 3 + 1) b).setIfInBounds (m * 3 + 2) c, rfl, hlo, ?_, by omega, hm, by simpa using hz, ?_⟩⟩
    · simp [World.setCell, Array.getElem?_modify, hB1]
    · have h3 : (cur.toList.take ((m + 1) * 3)).take (m * 3) = ys := by rw [ht, e, List.take_append_of_le_length (by omega), List.take_of_length_le (by omega)]
      rw [List.take_take, Nat.min_eq_left (by omega)] at h3
      simp only [Array.toList_setIfInBounds]
      rw [List.take_set_of_le (by omega), List.take_set_of_le (by omega), List.take_set_of_le (by omega)]
      exact h3

/-- Behind the last one being taken off what is left. -/
theorem sh_cut {g0 g : Gh} {w0 w : World} {bs : Nat} {vo vl : Value} {out : List UInt8} {L : List Itm} {i : Itm} (hs : Ste g0 w0 g w) (hH : ShIn g w0 w bs vo vl out (L ++ [i])) :
    ∃ q cap x y z, vl = .slice (some ⟨q, 0, none⟩) (L.length + 1) cap ∧ L.length + 1 ≤ cap ∧ q ≠ bs ∧ q < w.heap.size ∧ ItmIs g x y z i ∧ w.cell? ⟨q, L.length * 3, none⟩ = some x ∧ w.cell? ⟨q, L.length * 3 + 1, none⟩ = some y ∧ w.cell? ⟨q, L.length * 3 + 2, none⟩ = some z ∧ (∀ i, w.frozen? ⟨q, i, none⟩ = false) ∧
      ∀ w1 : World, Below w.heap.size w w1 → ∀ a b c, Ste g0 w0 g ((((w1.setCell ⟨q, L.length * 3, none⟩ a).setCell ⟨q, L.length * 3 + 1, none⟩ b).setCell ⟨q, L.length * 3 + 2, none⟩ c).setCell ⟨bs, 1, none⟩ (.slice (some ⟨q, 0, none⟩) L.length cap)) ∧
        ShIn g w0 ((((w1.setCell ⟨q, L.length * 3, none⟩ a).setCell ⟨q, L.length * 3 + 1, none⟩ b).setCell ⟨q, L.length * 3 + 2, none⟩ c).setCell ⟨bs, 1, none⟩ (.slice (some ⟨q, 0, none⟩) L.length cap)) bs vo (.slice (some ⟨q, 0, none⟩) L.length cap) out L := by
  obtain ⟨xs, h1, h2⟩ := hH.left
  rw [List.length_append] at h1
  obtain ⟨ys, x, y, z, e, hx, h3⟩ := h2.last
  obtain ⟨q, cap, ev, hcap, c0, c1, c2, hfr, hlo, ⟨cur, hq⟩, hset⟩ := row_lastP h1 e
  have hqb : q ≠ bs := hq.ne hH.blk (by decide)
  have hqm : Own1 g q := hH.lmy q (by rw [ev]; rfl)
  refine ⟨q, cap, x, y, z, ev, hcap, hqb, hq.lt, hx, c0, c1, c2, hfr, fun w1 hb a b c => ?_⟩
  have hs1 : Ste g w g w1 := .below hs.inv hb
  have hI := hH.ste hs1
  have hq1 : w1.heap[q]? = w.heap[q]? := hb.block _ hq.lt
  have ho := hset w1 hq1 a b c
  have hoth : ∀ k, k ≠ q → k ≠ bs → ((((w1.setCell ⟨q, L.length * 3, none⟩ a).setCell ⟨q, L.length * 3 + 1, none⟩ b).setCell ⟨q, L.length * 3 + 2, none⟩ c).setCell ⟨bs, 1, none⟩ (.slice (some ⟨q, 0, none⟩) L.length cap)).heap[k]? = w1.heap[k]? := fun k h1 h2 => by
    rw [Below.heap_setCell _ _ _ _ (show k ≠ (⟨bs, 1, none⟩ : Addr).block from h2), Below.heap_setCell _ _ _ _ (show k ≠ (⟨q, L.length * 3 + 2, none⟩ : Addr).block from h1), Below.heap_setCell _ _ _ _ (show k ≠ (⟨q, L.length * 3 + 1, none⟩ : Addr).block from h1), Below.heap_setCell _ _ _ _ (show k ≠ (⟨q, L.length * 3, none⟩ : Addr).block from h1)]
  have hbB : Blk (((w1.setCell ⟨q, L.length * 3, none⟩ a).setCell ⟨q, L.length * 3 + 1, none⟩ b).setCell ⟨q, L.length * 3 + 2, none⟩ c) bs #[vo, vl] 53 :=
    ((hI.blk.setOther (x := ⟨q, L.length * 3, none⟩) (Ne.symm hqb) a).setOther (x := ⟨q, L.length * 3 + 1, none⟩) (Ne.symm hqb) b).setOther (x := ⟨q, L.length * 3 + 2, none⟩) (Ne.symm hqb) c
  have hst := (((hs.trans hs1).setCell (x := ⟨q, L.length * 3, none⟩) hlo hqm.1 hqm.2 a).setCell (x := ⟨q, L.length * 3 + 1, none⟩) hlo hqm.1 hqm.2 b).setCell (x := ⟨q, L.length * 3 + 2, none⟩) hlo hqm.1 hqm.2 c
  refine ⟨hst.setCell (x := ⟨bs, 1, none⟩) hI.lo hI.my.1 hI.my.2 _, hI.lo, hI.my, hbB.set21 _, ownsRow_keep hI.out fun k h => ?_, hI.omy, ⟨ys, ownsRow_keep ho fun k h => ?_, h3⟩, fun k h => ?_⟩
  · obtain ⟨_, cur', hc⟩ := ownsRow_blk hI.out h
    exact hoth k (hc.ne (hq.of_eq hq1) (by decide)) (hc.ne hI.blk (by decide))
  · obtain rfl : q = k := by simpa [Value.ownBlock] using h
    exact Below.heap_setCell _ _ _ _ hqb
  · obtain rfl : q = k := by simpa [Value.ownBlock] using h
    exact hqm
end Go.Proofs.YthfjmcomhccbaaaGreatDoor

namespace Go.Proofs.YthfjmcomhccbaaaGreatDoor
open Go.Shelf Go.RowKit Tmx Evx
set_option maxRecDepth 60000

theorem outV_rev {s m k : Nat} {L : List Itm} {i : Itm} : outV s m k (L ++ [i]).reverse = outV s m k (i :: L.reverse) := by rw [List.reverse_append]; rfl

/-- Bytes that lie somewhere, as a text. -/
theorem conv_bytes (W : World) (p : Option Addr) (l : List UInt8) (cap : Nat) (h : ByS W p l) (hp : p = none → cap = 0) (hc : l.length ≤ cap) : (convert 50 9 (.slice p l.length cap)).run Tryz.prog W = .ok (.string ⟨l.toArray⟩) W := by
  cases p with
  | none =>
    obtain rfl := hp rfl
    obtain rfl : l = [] := List.eq_nil_of_length_eq_zero (by omega)
    simp [convert, run_underlying u39, run_underlying u5, run_underlying gu9, go_sem, Conv.bytesToString]
    rfl
  | some ad =>
    exact run_convert_bytes_back (P := Tryz.prog) W 50 9 5 ad cap l u39 u5 gu9 fun j hj => by
      obtain ⟨b, o, h1, h2⟩ := h
      have he := h1 (by omega)
      simp only [Option.some.injEq] at he
      subst he
      rw [show (⟨b, o, none⟩ : Addr).add j = ⟨b, o + j, none⟩ by unfold Addr.add; split <;> simp_all]
      exact h2 j hj

/-- A value is written, or parted: what is left of the reckoning. -/
theorem value_step (s m : Nat) (hm : m ≤ 1000000) (bs bt qv k : Nat) (v : V) (t u : Th) (out r1 : List UInt8) (L : List Itm) (g0 g : Gh) (w0 w : World) (hs : Ste g0 w0 g w) (hH : ShAt g w0 w bs out L) (hv : g.v qv = some v) (ht : g.l bt = some t)
    (he : ev s u = some v) (hr : outV s m (k + 1) (.inr (t, u) :: L.reverse) = some r1) (ho : out.length ≤ 100000) (hL : L.length ≤ 100000) :
    Calls Tryz.prog 25 #[ptr bs, ptr bt, ptr qv] w fun e w' => e = .returned (.tuple #[]) ∧ ∃ g' out2 r2 L2, Ste g0 w0 g' w' ∧ ShAt g' w0 w' bs out2 L2 ∧ outV s m k L2.reverse = some r2 ∧ out2 ++ r2 = out ++ r1 ∧ L2.length ≤ L.length + 5 := by
  rw [outV] at hr
  dsimp only at hr
  rw [he] at hr
  dsimp only at hr
  by_cases h1 : v.is 14 0 = true
  · rw [if_pos h1] at hr
    cases hn : numV s m t with
    | none => rw [hn] at hr; cases hr
    | some n =>
      rw [hn] at hr
      dsimp only at hr
      by_cases hlt : n < 100
      · rw [if_pos hlt] at hr
        obtain ⟨r2, hr2, rfl⟩ := Option.map_eq_some_iff.1 hr
        refine (value_nat s m hm bs bt qv v t n out L g0 g w0 w hs hH hv ht h1 hn hlt ho).mono ?_
        rintro e w' ⟨rfl, g', h2, _, _, h3⟩
        exact ⟨rfl, g', _, r2, L, h2, h3, hr2, by rw [List.append_assoc], by omega⟩
      · rw [if_neg hlt] at hr
        cases hr
  · rw [if_neg h1] at hr
    by_cases h2 : v.is 6 2 = true
    · rw [if_pos h2] at hr
      cases ha : argV v 0 [] with
      | none => rw [ha] at hr; cases hr
      | some a =>
        rw [ha] at hr
        cases hb : argV v 1 [.of (.mk 8 0 [.plain t])] with
        | none => rw [hb] at hr; cases hr
        | some b =>
          rw [hb] at hr
          refine (value_sig bs bt qv v t a b out L g0 g w0 w hs hH hv ht h2 ha hb hL).mono ?_
          rintro e w' ⟨rfl, g', h3, _, _, h4⟩
          refine ⟨rfl, g', _, r1, _, h3, h4, ?_, rfl, by simp⟩
          rw [List.reverse_append]
          exact hr
    · rw [if_neg h2] at hr
      cases hr

set_option maxHeartbeats 8000000 in
theorem all_out (s m : Nat) (hm : m ≤ 1000000) (bs k : Nat) (out r : List UInt8) (L : List Itm) (g0 g : Gh) (w0 w : World) (hs : Ste g0 w0 g w) (hH : ShAt g w0 w bs out L) (hr : outV s m k L.reverse = some r) (hlen : out.length + r.length ≤ 10000) (hL : L.length + 4 * k ≤ 10000) :
    Calls Tryz.prog 17 #[ptr bs] w fun e w' => e = .returned (.string ⟨(out ++ r).toArray⟩) ∧ ∃ g', Ste g0 w0 g' w' := by
  have HS := (show Hid _ from And.intro hs (And.intro hH (And.intro hr (And.intro hlen hL))))
  unfold ptr
  clear hs hH hr hlen hL
  go_enter Tryz.func17, Tryz.ntmps17
  go_wp2_with fail
  go_loopg [] k (fun gg wr => ∃ (g1 : Gh) (out1 r1 : List UInt8) (L1 : List Itm), Hid (Ste g0 w0 g1 wr ∧ ShAt g1 w0 wr bs out1 L1 ∧ outV s m gg L1.reverse = some r1 ∧ out1 ++ r1 = out ++ r ∧ L1.length + 4 * gg ≤ 10000))
  case atStart => exact ⟨g, out, r, L, HS.out.1, HS.out.2.1, HS.out.2.2.1, rfl, HS.out.2.2.2.2⟩
  case round =>
    obtain ⟨g1, out1, r1, L1, h⟩ := hrel
    obtain ⟨hs, ⟨vo, vl, hI⟩, h1, h2, h3⟩ := h.out
    clear h
    have hlen1 : out1.length + r1.length ≤ 10000 := by
      have := congrArg List.length h2
      rw [List.length_append, List.length_append] at this
      have := HS.out.2.2.2.1
      omega
    clear HS
    cases gk with
    | zero => simp [outV] at h1
    | succ k =>
    by_cases hL1 : L1 = []
    · subst hL1
      obtain rfl : r1 = [] := by
        have : some [] = some r1 := h1
        exact (Option.some.inj this).symm
      rw [List.append_nil] at h2
      subst h2
      obtain ⟨p, cap, rfl⟩ := hI.form
      obtain ⟨c0, c1, f0, f1⟩ := hI.blk.two
      obtain ⟨po, co, rfl, hco, hB, hpo⟩ := BytesIn.form hI.out
      simp only [List.length_nil] at c1
      have hcv := conv_bytes wr po (out ++ r) co hB hpo hco
      have HF := (show Hid _ from hs)
      obtain ⟨ln, hln⟩ : ∃ ln, (out ++ r).length = ln := ⟨_, rfl⟩
      rw [hln] at hcv c0
      clear hs hI h1 h3 hB hco hpo hln
      go_wp2_with fail
      refine bodyPost_ret (v := .string ⟨(out ++ r).toArray⟩) (by simp [results, Tryz.results17, go_sem]) rfl ⟨rfl, g1, HF.out⟩
    · obtain ⟨L2, i, rfl⟩ : ∃ L2 i, L1 = L2 ++ [i] := ⟨L1.dropLast, L1.getLast hL1, (List.dropLast_concat_getLast hL1).symm⟩
      rw [outV_rev] at h1
      rw [List.length_append] at h3
      simp only [List.length_cons, List.length_nil] at h3
      obtain ⟨q, cap, x, y, z, rfl, hcap, hqb, hql, hx, k0, k1, k2, hfr, hcut⟩ := sh_cut hs hI
      have hbW : Below wr.heap.size wr (wr.alloc (.cells #[x, y, z] 56)) := (Below.refl _ wr).alloc (Nat.le_refl _) _
      have hC := hcut _ hbW (.string ⟨#[]⟩) (.pointer none) (.pointer none)
      have hne : wr.heap.size ≠ bs := by have := hI.blk.lt; omega
      have hne2 : wr.heap.size ≠ q := by omega
      obtain ⟨c0, c1, f0, f1⟩ := hI.blk.two
      have hBx := ((((Blk.new wr #[x, y, z] 56).setOther (x := ⟨q, L2.length * 3, none⟩) hne2 (.string ⟨#[]⟩)).setOther (x := ⟨q, L2.length * 3 + 1, none⟩) hne2 (.pointer none)).setOther (x := ⟨q, L2.length * 3 + 2, none⟩) hne2 (.pointer none)).setOther (x := ⟨bs, 1, none⟩) hne (.slice (some ⟨q, 0, none⟩) L2.length cap)
      obtain ⟨nl, hnl⟩ : ∃ nl, L2.length = nl := ⟨_, rfl⟩
      simp only [hnl] at hcap k0 k1 k2 hC hBx c1 h3
      have HQ := (show Hid _ from And.intro hC.1 (And.intro hC.2 (And.intro h1 (And.intro h2 (And.intro h3 hlen1)))))
      have HB := (show Hid _ from And.intro hBx hx)
      have bl := hI.blk.lt
      have hnl3 : nl ≤ 10000 := by omega
      have hnl4 : (nl : Int) ≤ 10000 := by omega
      have HBS : Hid (Blk (wr.alloc (.cells #[x, y, z] 56)) bs #[vo, .slice (some ⟨q, 0, none⟩) (nl + 1) cap] 53) := by
        have := hI.blk.below hbW
        simp only [hnl] at this
        exact this
      have HOW : Hid (Own1 g1 wr.heap.size) := ⟨hs.inv.l_new (Nat.le_refl _), hs.inv.o_new (Nat.le_refl _)⟩
      obtain ⟨b0, b1, fb0, fb1⟩ := (hI.blk.below hbW).two
      simp only [hnl] at b1
      have hfq : ∀ i, (wr.alloc (.cells #[x, y, z] 56)).frozen? ⟨q, i, none⟩ = false := fun i => by
        rw [World.frozen?_of_block (w := wr) (hbW.block _ hql)]; exact hfr i
      have hcq : ∀ i v, wr.cell? ⟨q, i, none⟩ = some v → (wr.alloc (.cells #[x, y, z] 56)).cell? ⟨q, i, none⟩ = some v := fun i v h => by
        rw [World.cell?_of_block (w := wr) (hbW.block _ hql)]; exact h
      have q0 := hcq _ _ k0
      have q1 := hcq _ _ k1
      have q2 := hcq _ _ k2
      obtain ⟨W1, hW1⟩ : ∃ W1, wr.alloc (.cells #[x, y, z] 56) = W1 := ⟨_, rfl⟩
      have HW1 := (show Hid _ from hW1)
      clear hW1
      clear hs hI h1 h2 h3 hlen1 hcut hbW hC hBx hL1 hcq hx
      rcases i with b | ⟨t, u⟩
      · obtain ⟨rfl, rfl, rfl⟩ := HB.out.2
        go_upto_region 4 with fail
        have hW1 := HW1.out
        rw [hW1]
        simp only [hW1] at q0 q1 q2 b0 b1 fb0 fb1 hfq HQ HB HBS
        clear HW1 hW1 k0 k1 k2 c0 c1 f0 f1
        go_upto_region 5 with fail
        obtain ⟨W2, hW2⟩ : ∃ W2, ((W1.setCell ⟨q, nl * 3, none⟩ (.string ⟨#[]⟩)).setCell ⟨q, nl * 3 + 1, none⟩ (.pointer none)).setCell ⟨q, nl * 3 + 2, none⟩ (.pointer none) = W2 := ⟨_, rfl⟩
        have hBS2 := ((HBS.out.setOther (x := ⟨q, nl * 3, none⟩) (Ne.symm hqb) (.string ⟨#[]⟩)).setOther (x := ⟨q, nl * 3 + 1, none⟩) (Ne.symm hqb) (.pointer none)).setOther (x := ⟨q, nl * 3 + 2, none⟩) (Ne.symm hqb) (.pointer none)
        rw [hW2] at hBS2 ⊢
        simp only [hW2] at HQ HB
        obtain ⟨e0, e1, ef0, ef1⟩ := hBS2.two
        clear hW2 hBS2 HBS q0 q1 q2 b0 b1 fb0 fb1 hfq
        go_upto_region 6 with fail
        obtain ⟨W, hW⟩ : ∃ W, W2.setCell ⟨bs, 1, none⟩ (.slice (some ⟨q, 0, none⟩) nl cap) = W := ⟨_, rfl⟩
        rw [hW]
        simp only [hW] at HQ HB
        clear hW e0 e1 ef0 ef1
        obtain ⟨x0, x1, x2, _, _, _⟩ := HB.out.1.three
        obtain ⟨d0, d1, fd0, fd1⟩ := HQ.out.2.1.blk.two
        obtain ⟨r2, hr2, hr1⟩ : ∃ r2, outV s m k L2.reverse = some r2 ∧ b ++ r2 = r1 := Option.map_eq_some_iff.1 HQ.out.2.2.1
        have hlo : w0.heap.size ≤ W.heap.size := HQ.out.1.keep.size
        have hlen2 : out1.length + b.length ≤ 1000000 := by
          have h6 := HQ.out.2.2.2.2.2
          rw [← hr1, List.length_append] at h6
          omega
        obtain ⟨v', w2, hr, hB1, hg2, hat⟩ := append_str W.drew w0.heap.size vo out1 b HQ.out.2.1.out hlen2 hlo 50
        obtain ⟨po, co, rfl, _⟩ := BytesIn.form hB1
        have hp := sh_out HQ.out.1 HQ.out.2.1 (Below.refl _ _).drew hB1 hg2 hat
        have hbk : Blk w2 bs #[vo, .slice (some ⟨q, 0, none⟩) nl cap] 53 := HQ.out.2.1.blk.of_eq (hg2.block bs HQ.out.2.1.blk.lt fun e => by
          obtain ⟨_, cur, hc⟩ := ownsRow_blk HQ.out.2.1.out e.symm
          exact HQ.out.2.1.blk.ne hc (by decide) rfl)
        obtain ⟨i0, i1, if0, if1⟩ := hbk.two
        obtain ⟨ln, hln⟩ : ∃ ln, (out1 ++ b).length = ln := ⟨_, rfl⟩
        simp only [hln] at hr hp
        have HR := (show Hid _ from hr)
        have HF := (show Hid _ from And.intro hp (And.intro hr2 hr1))
        clear hp hr hbk hB1 hg2 hat hr2 hr1 hln hlen2
        go_wp2_with fail
        go_region_law (first
          | (refine step_unwanted rfl ?_)
          | (refine gstep_append_run rfl _ _ 50 9 rfl _ _ _ rfl rfl HR.out ?_))
        all_goals
          go_wp2_with fail
          go_roundg k
          case measure => omega
          case rel =>
            refine ⟨g1, out1 ++ b, r2, L2, HF.out.1.1, ⟨_, _, HF.out.1.2⟩, HF.out.2.1, ?_, ?_⟩
            · rw [List.append_assoc, HF.out.2.2]
              exact HQ.out.2.2.2.1
            · have := HQ.out.2.2.2.2.1
              omega
      · obtain ⟨rfl, ⟨bt, rfl, ht⟩, ⟨bu, rfl, hu⟩⟩ := HB.out.2
        unfold ptr at *
        go_upto_region 4 with fail
        have hW1 := HW1.out
        rw [hW1]
        simp only [hW1] at q0 q1 q2 b0 b1 fb0 fb1 hfq HQ HB HBS
        clear HW1 hW1 k0 k1 k2 c0 c1 f0 f1
        go_upto_region 5 with fail
        obtain ⟨W2, hW2⟩ : ∃ W2, ((W1.setCell ⟨q, nl * 3, none⟩ (.string ⟨#[]⟩)).setCell ⟨q, nl * 3 + 1, none⟩ (.pointer none)).setCell ⟨q, nl * 3 + 2, none⟩ (.pointer none) = W2 := ⟨_, rfl⟩
        have hBS2 := ((HBS.out.setOther (x := ⟨q, nl * 3, none⟩) (Ne.symm hqb) (.string ⟨#[]⟩)).setOther (x := ⟨q, nl * 3 + 1, none⟩) (Ne.symm hqb) (.pointer none)).setOther (x := ⟨q, nl * 3 + 2, none⟩) (Ne.symm hqb) (.pointer none)
        rw [hW2] at hBS2 ⊢
        simp only [hW2] at HQ HB
        obtain ⟨e0, e1, ef0, ef1⟩ := hBS2.two
        clear hW2 hBS2 HBS q0 q1 q2 b0 b1 fb0 fb1 hfq
        go_upto_region 6 with fail
        obtain ⟨W, hW⟩ : ∃ W, W2.setCell ⟨bs, 1, none⟩ (.slice (some ⟨q, 0, none⟩) nl cap) = W := ⟨_, rfl⟩
        rw [hW]
        simp only [hW] at HQ HB
        clear hW e0 e1 ef0 ef1
        obtain ⟨x0, x1, x2, _, _, _⟩ := HB.out.1.three
        obtain ⟨d0, d1, fd0, fd1⟩ := HQ.out.2.1.blk.two
        obtain ⟨v, hev⟩ : ∃ v, ev s u = some v := by
          have h1 := HQ.out.2.2.1
          rw [outV] at h1
          dsimp only at h1
          cases e : ev s u with
          | none => rw [e] at h1; cases h1
          | some v => exact ⟨v, rfl⟩
        have hsd := Ste.drew HQ.out.1.inv
        have HN : Calls Tryz.prog 20 #[.pointer (some ⟨bu, 0, none⟩)] W.drew fun e w' => ∃ g' q, e = .returned (.pointer (some ⟨q, 0, none⟩)) ∧ Ste g1 W.drew g' w' ∧ g'.v q = some v := now_any bu u v g1 W.drew hsd.inv hu ⟨s, hev⟩
        have HV : Hid (∀ (g2 : Gh) (w2 : World) (qv : Nat), Ste g1 W.drew g2 w2 → g2.v qv = some v → Calls Tryz.prog 25 #[.pointer (some ⟨bs, 0, none⟩), .pointer (some ⟨bt, 0, none⟩), .pointer (some ⟨qv, 0, none⟩)] w2 fun e w' => e = .returned (.tuple #[]) ∧ ∃ g' out2 r2 L3, Ste g0 w0 g' w' ∧ ShAt g' w0 w' bs out2 L3 ∧ outV s m k L3.reverse = some r2 ∧ out2 ++ r2 = out1 ++ r1 ∧ L3.length ≤ L2.length + 5) := fun g2 w2 qv h1 h2 =>
          value_step s m hm bs bt qv k v t u out1 r1 L2 g0 g2 w0 w2 ((HQ.out.1.trans hsd).trans h1) ⟨_, _, (HQ.out.2.1.ste hsd).ste h1⟩ h2 (h1.le.l _ _ ht) hev HQ.out.2.2.1 (by have := HQ.out.2.2.2.2.2; omega) (by omega)
        have HO2 : Hid (∀ (g2 : Gh) (w2 : World), Ste g1 W.drew g2 w2 → Blk w2 wr.heap.size #[.string ⟨#[]⟩, .pointer (some ⟨bt, 0, none⟩), .pointer (some ⟨bu, 0, none⟩)] 56) := fun g2 w2 h => (show Blk W.drew _ _ _ from HB.out.1).of_eq (HOW.out.ste (w := W.drew) HB.out.1.lt h).2
        clear hsd hev ht hu
        go_wp2_with fail
        go_region_law (first
          | (refine step_unwanted rfl ?_)
          | (go_simp; go_at_call 20; refine HN.mono ?_; rintro e w2 ⟨g2, qv, rfl, hs2, hv2⟩; have HX := (show Hid _ from And.intro hs2 hv2); obtain ⟨_, y1, y2, _, _, _⟩ := (HO2.out _ _ hs2).three; clear hs2 hv2)
          | (go_simp; go_at_call 25; refine (HV.out _ _ _ HX.out.1 HX.out.2).mono ?_; rintro e w3 ⟨rfl, g3, out2, r2, L3, z1, z2, z3, z4, z5⟩; have HZ := (show Hid _ from And.intro z1 (And.intro z2 (And.intro z3 (And.intro z4 z5)))); clear z1 z2 z3 z4 z5))
        all_goals
          go_wp2_with fail
          go_roundg k
          case measure => omega
          case rel =>
            refine ⟨g3, out2, r2, L3, HZ.out.1, HZ.out.2.1, HZ.out.2.2.1, HZ.out.2.2.2.1.trans HQ.out.2.2.2.1, ?_⟩
            have := HQ.out.2.2.2.2.1
            have := HZ.out.2.2.2.2
            omega
end Go.Proofs.YthfjmcomhccbaaaGreatDoor

namespace Go.Proofs.YthfjmcomhccbaaaGreatDoor
open Go.RowKit Tmx Evx
set_option maxRecDepth 60000

/-- What a thunk of that type comes to, as a text. -/
def showV (s m k : Nat) (t u : Th) : Option (List UInt8) := outV s m k [.inr (t, u)]
end Go.Proofs.YthfjmcomhccbaaaGreatDoor
