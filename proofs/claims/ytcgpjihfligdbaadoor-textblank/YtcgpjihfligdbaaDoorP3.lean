/-
  The program's writer: an argument, ahead of it the names that it has bound.
-/
import Derived.Test.YtcgpjihfligdbaaDoorP2
import Derived.Test.YtcgpjihfligdbaaDoorPlainQ
namespace Go.Proofs.YtcgpjihfligdbaaDoor
open Go.RowKit Tmx
set_option maxRecDepth 60000

theorem xsOf_snoc : ∀ (m i : Nat), xsOf (m + 1) i = xsOf m i ++ [xname (i + m)]
  | 0, i => rfl
  | m + 1, i => by
    rw [xsOf, xsOf_snoc m (i + 1), xsOf, show i + 1 + m = i + (m + 1) by omega]
    rfl
theorem xaft_snoc : ∀ (xs : List (List UInt8)) (x : List UInt8), xaft (xs ++ [x]) = xaft xs ++ (x ++ [32])
  | [], x => by simp [xaft]
  | y :: xs, x => by
    rw [List.cons_append, xaft, xaft, xaft_snoc xs x]
    simp

theorem bs_append (a c : List UInt8) : ({ data := a.toArray } : ByteArray) ++ { data := c.toArray } = { data := (a ++ c).toArray } := by
  apply ByteArray.ext
  simp
/-- What the writer's calls leave. -/
def WrPost (lo b : Nat) (ds : List (List UInt8)) (w : World) (l' : List UInt8) (ns : List (List UInt8)) (e : Ending) (w' : World) : Prop :=
  (∃ v, e = .returned v) ∧ (∃ bv', WS lo b w' l' ns ds bv') ∧ KP lo w w'
/-- The writer of smaller terms. -/
def WrP (w0 : World) (b : Nat) (ds : List (List UInt8)) (m : Nat) : Prop :=
  ∀ (f : F) (k n : Int) (p : Option Addr) (cap : Nat) (w : World) (l : List UInt8) (ns : List (List UInt8)) (bv : Value) (deep : Int), size f < m → Sl w0 p f → lookT ds.length ns.length deep k n f = 0 → 1 ≤ deep → (ns.length : Int) + 2 * (25 - deep) ≤ 1000 → WS w0.heap.size b w l ns ds bv → Below w0.heap.size w0 w →
    l.length + (ppT ds ns k n f).length ≤ 140737488355328 →
    Calls Tryd.prog 54 #[.pointer (some ⟨b, 0, none⟩), .agg #[.int .i64 k, .int .i64 n, .slice p (len f) cap]] w (WrPost w0.heap.size b ds w (l ++ ppT ds ns k n f) ns)

/-- A name is put behind those that are bound. -/
theorem ws_push {lo b : Nat} {w : World} {l : List UInt8} {ns ds : List (List UInt8)} {bv : Value} (h : WS lo b w l ns ds bv) (x : List UInt8) (hn : ns.length ≤ 4000000) :
    ∃ g cap w1, (Builtin.append_ #[36, 36] 36 #[bv, .slice (some ⟨w.heap.size, 0, none⟩) 1 1]).run Tryd.prog (w.alloc (.cells #[.string ⟨x.toArray⟩] 9)) = .ok (.slice (some ⟨g, 0, none⟩) (ns.length + 1) cap) w1 ∧
      (w1.cell? ⟨b, 2, none⟩ = w.cell? ⟨b, 2, none⟩ ∧ w1.frozen? ⟨b, 2, none⟩ = w.frozen? ⟨b, 2, none⟩) ∧
      WS lo b (w1.setCell ⟨b, 2, none⟩ (.slice (some ⟨g, 0, none⟩) (ns.length + 1) cap)) l (ns ++ [x]) ds (.slice (some ⟨g, 0, none⟩) (ns.length + 1) cap) ∧
      KP lo w (w1.setCell ⟨b, 2, none⟩ (.slice (some ⟨g, 0, none⟩) (ns.length + 1) cap)) := by
  have hlt := h.lt
  have hlb := h.lob
  obtain ⟨A, U, pd, cd, h1, h2, h3, h4⟩ := h.blk
  obtain ⟨g, cap, w1, hrun, hN, ho, e1, e2, e3, e4, e5⟩ := push_name w lo bv ns h.names x hn (by omega)
  have hnl := row_writer h.names h1 (by decide)
  have hb1 : WB w1 b A U bv (.slice pd ds.length cd) := h1.of_block (e5 b hlt hnl)
  have hap := rows_apart h3.1 h.names (by decide)
  have hU1 : BufIn lo w1 U l := ⟨ownsRow_along h3.1 fun k e => e5 k (h3.1.lt k e).2 (hap k e), h3.2⟩
  have hlow : ∀ k, k < lo → k < w.heap.size → w1.heap[k]? = w.heap[k]? := fun k hk hs => e5 k hs fun e => by have := (h.names.lt k e).1; omega
  have hnl1 := row_writer hN hb1 (by decide)
  have hul1 := row_writer hU1.1 hb1 (by decide)
  have kp1 : KP lo w w1 := ⟨e1, e2, e3, e4, hlow, fun k cs t f q1 q2 q3 _ => by
    rw [e5 k (by obtain ⟨hl, _⟩ := Array.getElem?_eq_some_iff.1 q1; exact hl) (fun e => by
      rcases h.names.2 with ⟨rfl, _⟩ | ⟨g', cap', cur', rfl, _, hh, _⟩
      · simp [Value.ownBlock] at e
      · have : g' = k := by simpa [Value.ownBlock] using e
        subst this
        rw [hh] at q1
        simp only [Option.some.injEq, Obj.cells.injEq] at q1
        exact q3 q1.2.1.symm)]
    exact q1⟩
  refine ⟨g, cap, w1, hrun, ⟨World.cell?_of_block (e5 b hlt hnl), World.frozen?_of_block (e5 b hlt hnl)⟩, ⟨⟨A, U, pd, cd, hb1.set2 _, h2, ⟨ownsRow_along hU1.1 fun k e => Below.heap_setCell _ _ _ _ (fun e2 => hul1 (by rw [e, e2])), hU1.2⟩,
    (h4.along hlow).along fun k hk _ => Below.heap_setCell _ _ _ _ (by show k ≠ b; omega)⟩, ownsRow_along hN fun k e => Below.heap_setCell _ _ _ _ (fun e2 => hnl1 (by rw [e, e2])), hlb, ?_⟩, kp1.trans (KP.set hb1 hlb _)⟩
  exact (h.vs.along fun g hg2 hs => hlow g (by have := h.vs.1; omega) hs).along fun g hg2 _ => Below.heap_setCell _ _ _ _ (by have := h.vs.1; show g ≠ b; omega)
theorem WS.setB {lo b : Nat} {w : World} {l : List UInt8} {ns ds : List (List UInt8)} {bv : Value} (h : WS lo b w l ns ds bv) {v' : Value} {ns' : List (List UInt8)} (hN : NamesIn lo w v' ns') : WS lo b (w.setCell ⟨b, 2, none⟩ v') l ns' ds v' ∧ KP lo w (w.setCell ⟨b, 2, none⟩ v') := by
  obtain ⟨A, U, pd, cd, h1, h2, h3, h4⟩ := h.blk
  have hlb := h.lob
  have hul := row_writer h3.1 h1 (by decide)
  have hnl := row_writer hN h1 (by decide)
  exact ⟨⟨⟨A, U, pd, cd, h1.set2 _, h2, ⟨ownsRow_along h3.1 fun k e => Below.heap_setCell _ _ _ _ (fun e2 => hul (by rw [e, e2])), h3.2⟩, h4.along fun k hk _ => Below.heap_setCell _ _ _ _ (by show k ≠ b; omega)⟩,
    ownsRow_along hN fun k e => Below.heap_setCell _ _ _ _ (fun e2 => hnl (by rw [e, e2])), hlb, h.vs.along fun g hg2 _ => Below.heap_setCell _ _ _ _ (by have := h.vs.1; show g ≠ b; omega)⟩, KP.set h1 hlb _⟩

set_option maxRecDepth 60000 in
set_option maxHeartbeats 4000000 in
theorem warg_any (w0 : World) (b : Nat) (ds : List (List UInt8)) (m : Nat) (H : Hid (WrP w0 b ds m)) (mm : Nat) (hmm : mm ≤ 2) (f : F) (k n : Int) (p : Option Addr) (cap : Nat) (w : World) (l : List UInt8) (ns : List (List UInt8)) (bv : Value) (deep : Int) (hm : size f < m) (hs : Sl w0 p f) (hlk : lookT ds.length (ns.length + mm : Nat) deep k n f = 0)
    (h1 : 1 ≤ deep) (hbd : ((ns.length + mm : Nat) : Int) + 2 * (25 - deep) ≤ 1000) (hW : WS w0.heap.size b w l ns ds bv) (hb0 : Below w0.heap.size w0 w) (hlen : l.length + (xaft (xsOf mm ns.length)).length + (ppT ds (ns ++ xsOf mm ns.length) k n f).length ≤ 140737488355328) :
    Calls Tryd.prog 101 #[.pointer (some ⟨b, 0, none⟩), .agg #[.int .i64 k, .int .i64 n, .slice p (len f) cap], .int .i64 (mm : Int)] w (WrPost w0.heap.size b ds w (l ++ (xaft (xsOf mm ns.length) ++ ppT ds (ns ++ xsOf mm ns.length) k n f)) ns) := by
  have hdeep := (lookT_args hlk).2.2.2.2.2
  have hlo0 := hb0.size
  have hbA : Below w.heap.size w (w.alloc (.cells #[.int .i64 k, .int .i64 n, .slice p (len f) cap] 24)) := (Below.refl _ _).alloc (Nat.le_refl _) _
  have bx0 := Box.new w (.int .i64 k) (.int .i64 n) (.slice p (len f) cap)
  have hW0 := hW.below hbA
  have kp0 : KP w0.heap.size w (w.alloc (.cells #[.int .i64 k, .int .i64 n, .slice p (len f) cap] 24)) := KP.of_below hbA
  obtain ⟨A, U, pd, cd, q1, _, _, _⟩ := hW0.blk
  obtain ⟨pn, cn, hbf⟩ := hW0.names.form
  obtain ⟨c0, c1, c2, c3, f0, f1, f2⟩ := q1.facts
  rw [hbf] at c2
  clear q1 hbf
  go_enter Tryd.func101, Tryd.ntmps101
  go_wp2_with fail
  clear c0 c1 c2 c3 f0 f1 f2
  go_loopg [14] mm (fun g ix wr => ∃ (j : Nat) (l' : List UInt8) (ns' : List (List UInt8)) (bv' : Value), g = mm - j ∧ j ≤ mm ∧ ix = .int .i64 (j : Int) ∧ WS w0.heap.size b wr l' ns' ds bv' ∧ Hid (l' = l ++ xaft (xsOf j ns.length)) ∧ Hid (ns' = ns ++ xsOf j ns.length) ∧ KP w0.heap.size w wr ∧ Box wr w.heap.size (.int .i64 k) (.int .i64 n) (.slice p (len f) cap))
  case atStart => exact ⟨0, l, ns, bv, by simp, Nat.zero_le _, rfl, hW0, by show l = l ++ []; simp, by show ns = ns ++ []; simp, kp0, bx0⟩
  case round =>
    clear hW0 kp0 bx0
    obtain ⟨j, l', ns', bv', rfl, hj, rfl, hS, HL, HN, kp, hbx⟩ := hrel
    have hnl : ns'.length = ns.length + j := by rw [HN.out, List.length_append, xsOf_len]
    have HNL : Hid (ns'.length = ns.length + j) := hnl
    have hn1 : ns'.length ≤ 1000 := by omega
    have hn2 : ns.length ≤ ns'.length := by omega
    clear hnl
    obtain ⟨A, U, pd, cd, q1, _, _, _⟩ := hS.blk
    obtain ⟨pn', cn', rfl⟩ := hS.names.form
    obtain ⟨c0, c1, c2, c3, f0, f1, f2⟩ := q1.facts
    clear q1 c0 c1 c3 f0 f1
    by_cases hlt : j < mm
    · have hl2 : l'.length + 3 ≤ 140737488355328 := by
        have h2 : (xaft (xsOf (j + 1) ns.length)).length ≤ (xaft (xsOf mm ns.length)).length := by
          have : j = 0 ∧ mm = 1 ∨ j = 0 ∧ mm = 2 ∨ j = 1 ∧ mm = 2 := by omega
          rcases this with ⟨rfl, rfl⟩ | ⟨rfl, rfl⟩ | ⟨rfl, rfl⟩ <;> simp [xsOf, xaft, xname]
        rw [xsOf_snoc, xaft_snoc] at h2
        rw [HL.out]
        simp [xname] at h2
        simp
        omega
      go_wp2_with fail
      refine (boundName_any ns'.length wr (by omega)).mono ?_
      rintro e w1 ⟨rfl, rfl⟩
      go_wp2_with fail
      rw [bs_append (xname ns'.length) [32]]
      refine (writeString_any hS (xname ns'.length ++ [32]) (by simp [xname]; omega)).mono ?_
      rintro e w2 ⟨⟨v2, rfl⟩, hS2, kp2⟩
      have bx2 := kp2.box hbx
      have kp02 := kp.trans kp2
      clear hS hbx kp kp2 c2 f2
      obtain ⟨A, U, pd, cd, q1, _, _, _⟩ := hS2.blk
      obtain ⟨c0, c1, c2, c3, f0, f1, f2⟩ := q1.facts
      obtain ⟨g, cap3, w3, hrun, ⟨r1, r2⟩, hS3, kp3⟩ := ws_push hS2 (xname ns'.length) (by omega)
      rw [c2] at r1
      rw [f2] at r2
      have HRP : Hid ((Builtin.append_ #[36, 36] 36 #[.slice pn' ns'.length cn', .slice (some ⟨w2.heap.size, 0, none⟩) 1 1]).run Tryd.prog (w2.alloc (.cells #[.string ⟨(xname ns'.length).toArray⟩] 9)) = .ok (.slice (some ⟨g, 0, none⟩) (ns'.length + 1) cap3) w3) := hrun
      have bx3 := kp3.box bx2
      clear hrun q1 c0 c1 c3 f0 f1
      have hblt := hS2.lt
      go_wp2_with (first | (at_builtin; refine wpList_append_run rfl _ _ 36 rfl _ _ _ rfl rfl HRP.out ?_; clear HRP) | fail)
      go_roundg (mm - (j + 1))
      case measure => omega
      case rel => exact ⟨j + 1, _, _, _, rfl, hlt, by go_num, hS3, by rw [HL.out, xsOf_snoc, xaft_snoc, HNL.out]; show _ = _; simp, by rw [HN.out, xsOf_snoc, ← HN.out, HNL.out, HN.out]; show _ = _; simp, kp02.trans kp3, bx3⟩
    · obtain rfl : j = mm := by omega
      have HTC : Hid (Calls Tryd.prog 54 #[.pointer (some ⟨b, 0, none⟩), .agg #[.int .i64 k, .int .i64 n, .slice p (len f) cap]] wr (WrPost w0.heap.size b ds wr (l' ++ ppT ds ns' k n f) ns')) :=
        H.out f k n p cap wr l' ns' _ deep hm hs (by rw [HNL.out]; exact hlk) h1 (by rw [HNL.out]; exact hbd) hS (hb0.trans (kp.below hlo0)) (by rw [HL.out, HN.out, List.length_append]; exact hlen)
      obtain ⟨y0, y1, y2, z0, z1, z2⟩ := hbx.facts
      have hbl := hbx.lt
      go_wp2_with fail
      refine HTC.out.mono ?_
      clear HTC
      rintro e w2 ⟨⟨v2, rfl⟩, ⟨bv2, hS2⟩, kp2⟩
      obtain ⟨pb2, cb2, rfl⟩ := hS2.names.form
      obtain ⟨A, U, pd, cd, q1, _, _, _⟩ := hS2.blk
      obtain ⟨d0, d1, d2, d3, e0, e1, e2⟩ := q1.facts
      have hcut := cut_texts hS2.names (m := ns.length) (by omega) rfl
      have hNt := hS2.names.take (m := ns.length) (by omega)
      obtain ⟨hS3, kp3⟩ := hS2.setB hNt
      have HTK : Hid (ns'.take ns.length = ns) := by rw [HN.out]; show _ = _; simp
      clear q1 c2 f2 d0 d1 d3 e0 e1 y0 y1 y2 z0 z1 z2 hS hNt
      go_wp2_with fail
      go_end0
      refine ⟨⟨_, rfl⟩, ⟨.slice pb2 ns.length cb2, ?_⟩, (kp.trans kp2).trans kp3⟩
      rw [HTK.out, HL.out, HN.out, List.append_assoc] at hS3
      exact hS3
end Go.Proofs.YtcgpjihfligdbaaDoor
