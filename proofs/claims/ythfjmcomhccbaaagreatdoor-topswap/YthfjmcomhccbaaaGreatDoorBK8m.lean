/-
  What strings.SplitSeq's function does: line by line.
-/
/-
  Contracts of package book: Load, of lines that are all taken.
-/
import Derived.Test.YthfjmcomhccbaaaGreatDoorBK4m
import Derived.Maps.AppendAt
namespace Go.Proofs.YthfjmcomhccbaaaGreatDoor
open Go.RowKit Tmx Evx
set_option maxRecDepth 60000
attribute [local go_sem] Oper.semAt_some

theorem indexByte_no : ∀ {l : List UInt8} {c : UInt8}, c ∉ l → Lib.indexByte l c = -1
  | [], _, _ => rfl
  | b :: l, c, h => by
    have h1 : ¬ b = c := fun e => h (by simp [e])
    have h2 := indexByte_no (l := l) (c := c) fun e => h (by simp [e])
    unfold Lib.indexByte
    rw [if_neg (by simpa using h1), h2]
    rfl
theorem indexByte_at : ∀ {l r : List UInt8} {c : UInt8}, c ∉ l → Lib.indexByte (l ++ c :: r) c = (l.length : Int)
  | [], r, c, _ => by
    show Lib.indexByte (c :: r) c = 0
    unfold Lib.indexByte
    rw [if_pos (by simp)]
  | b :: l, r, c, h => by
    have h1 : ¬ b = c := fun e => h (by simp [e])
    have h2 := indexByte_at (l := l) (r := r) (c := c) fun e => h (by simp [e])
    show Lib.indexByte (b :: (l ++ c :: r)) c = _
    unfold Lib.indexByte
    rw [if_neg (by simpa using h1), h2, if_neg (by simp)]
    simp

/-- A text line by line: N lines, x j; behind the first j of them R j is left. -/
structure Lines (N : Nat) (R x : Nat → List UInt8) : Prop where
  pos : 0 < N
  step : ∀ j, j + 1 < N → R j = x j ++ 10 :: R (j + 1)
  last : R (N - 1) = x (N - 1)
  no : ∀ j, j < N → (10 : UInt8) ∉ x j
  small : ∀ j, j < N → (R j).length ≤ 1000000
/-- What is left lies in the block sb; pb, vb: what separates lines, and nought. -/
def Mid (C : Nat → World → Prop) (R : Nat → List UInt8) (sb pb vb k j : Nat) (W : World) : Prop := C k W ∧ Blk W sb #[.string ⟨(R j).toArray⟩] 9 ∧ Blk W pb #[.string ⟨#[10]⟩] 9 ∧ Blk W vb #[.int .i64 0] 3

def restLen (W : World) (sb : Nat) : Nat := match W.cell? ⟨sb, 0, none⟩ with
  | some (.string s) => s.size
  | _ => 0
theorem restLen_of {W : World} {sb : Nat} {l : List UInt8} (h : W.cell? ⟨sb, 0, none⟩ = some (.string ⟨l.toArray⟩)) : restLen W sb = l.length := by
  unfold restLen
  rw [h]
  simp [ByteArray.size]

theorem Blk.putOne {w : World} {b : Nat} {x : Value} {T : TypeId} (h : Blk w b #[x] T) (y : Value) : Blk (w.setCell ⟨b, 0, none⟩ y) b #[y] T := by
  unfold Blk at *
  simp [World.setCell, Array.getElem?_modify, h]
set_option maxHeartbeats 4000000 in
theorem split_iter (N : Nat) (R x : Nat → List UInt8) (hL : Lines N R x) (C : Nat → World → Prop) (sb pb vb : Nat) (hne : sb ≠ pb ∧ sb ≠ vb) (hC : ∀ k W v, C k W → C k (W.setCell ⟨sb, 0, none⟩ v)) (l : Nat) (Rr : World → Prop) (W : World)
    (hR : ∀ W b v, Rr W → W.heap[b]? ≠ none → (∃ cs T f, W.heap[b]? = some (.cells cs T f)) → Rr (W.setCell ⟨b, 0, none⟩ v))
    (hy : ∀ k W, Mid C R sb pb vb k k W → Rr W → k < N → YieldAt Fence.wide 3 Tryz.prog l #[.string ⟨(x k).toArray⟩] W fun e W' => e = .returned (.bool true) ∧ Mid C R sb pb vb (k + 1) k W' ∧ Rr W')
    (hM : Mid C R sb pb vb 0 0 W) (h0 : Rr W) :
    CallsIn Fence.wide 4 Tryz.prog 37 (#[.func (.yield l) #[] #[]] ++ #[.pointer (some ⟨pb, 0, none⟩), .pointer (some ⟨sb, 0, none⟩), .pointer (some ⟨vb, 0, none⟩)]) W fun e W' => (∃ v, e = .returned v) ∧ (∃ j, Mid C R sb pb vb N j W') ∧ Rr W' := by
  have HH := (show Hid _ from And.intro hL (And.intro hne (And.intro hR hy)))
  have HM := (show Hid _ from And.intro hM h0)
  obtain ⟨a1, _⟩ := hM.2.2.1.one
  clear hL hR hy h0
  refine callsIn_of_wp Tryz.func37 rfl trivial ?_ rfl
  simp only [Tryz.ntmps37, List.size_toArray, List.length_cons, List.length_nil, Nat.reduceAdd, Nat.reduceSub, Array.replicate_succ, Array.replicate_zero, List.push_toArray, List.append_toArray, List.nil_append, List.cons_append]
  gi_wp2
  gi_loopw [7] (fun _ wr => ∃ k, k < N ∧ Mid C R sb pb vb k k wr ∧ Rr wr) (fun _ wr => restLen wr sb)
  case atStart => exact ⟨0, HH.out.1.pos, HM.out⟩
  case round =>
    clear HM
    obtain ⟨k, hk, hm, hr⟩ := hrel
    obtain ⟨mC, mS, mP, mV⟩ := hm
    have HK := (show Hid _ from And.intro mC (And.intro mS (And.intro mP (And.intro mV hr))))
    obtain ⟨s0, _⟩ := mS.one
    obtain ⟨p0, _⟩ := mP.one
    obtain ⟨v0, _⟩ := mV.one
    have hIx : Calls Tryz.prog 39 #[.string ⟨(R k).toArray⟩, .string ⟨#[10]⟩] wr fun e w' => e = .returned (.int .i64 (Lib.indexByte (R k) 10)) ∧ w' = wr := index_one (R k) 10 wr
    obtain ⟨fn, tmps, asg, bd, hyy, hRd⟩ := HH.out.2.2.2 k wr ⟨mC, mS, mP, mV⟩ hr hk
    have hsm := HH.out.1.small k hk
    clear mC mS mP mV hr
    by_cases hlt : k + 1 < N
    · have hst := HH.out.1.step k hlt
      have hno := HH.out.1.no k hk
      rw [show Lib.indexByte (R k) 10 = ((x k).length : Int) by rw [hst]; exact indexByte_at hno] at hIx
      have hlen : (R k).length = (x k).length + 1 + (R (k + 1)).length := by rw [hst]; simp; omega
      have hex1 : (⟨(R k).toArray⟩ : ByteArray).extract 0 (x k).length = ⟨(x k).toArray⟩ := by rw [hst, ByteArray.extract_mk]; simp
      have hex2 : (⟨(R k).toArray⟩ : ByteArray).extract ((x k).length + 1) (R k).length = ⟨(R (k + 1)).toArray⟩ := by rw [hst, ByteArray.extract_mk]; simp; exact List.take_of_length_le (by omega)
      have HLN := (show Hid _ from And.intro hst hlen)
      obtain ⟨xl, hxl⟩ : ∃ n, (x k).length = n := ⟨_, rfl⟩
      rw [hxl] at hIx hex1 hex2 hlen
      have HXL := (show Hid _ from hxl)
      clear hst hno hxl
      gi_wp2_with (first | (refine ⟨trivial, ?_⟩; gi_at_call 39; refine (callsIn_wide.2 hIx).mono ?_; rintro e w' ⟨rfl, rfl⟩) | fail)
      refine hRd.mono ?_
      rintro e w2 ⟨rfl, ⟨nC, nS, nP, nV⟩, nr⟩
      have HK2 := (show Hid _ from And.intro nC (And.intro nS (And.intro nP (And.intro nV nr))))
      obtain ⟨z0, zf⟩ := nS.one
      obtain ⟨y0, _⟩ := nP.one
      clear nC nS nP nV nr s0 p0 v0 hIx
      gi_wp2
      have hex3 : (⟨(R k).toArray⟩ : ByteArray).extract (xl + 1) (xl + 1 + (R (k + 1)).length) = ⟨(R (k + 1)).toArray⟩ := by rw [← hlen]; exact hex2
      rw [hex3]
      obtain ⟨q1, q2, q3, q4, q5⟩ := HK2.out
      have q6 := Blk.putOne q2 (.string ⟨(R (k + 1)).toArray⟩)
      refine ⟨⟨k + 1, hlt, ⟨hC _ _ _ q1, q6, q3.of_eq (Below.heap_setCell _ _ _ _ (by show pb ≠ sb; exact Ne.symm HH.out.2.1.1)), q4.of_eq (Below.heap_setCell _ _ _ _ (by show vb ≠ sb; exact Ne.symm HH.out.2.1.2))⟩, HH.out.2.2.1 _ _ _ q5 (by rw [q2]; simp) ⟨_, _, _, q2⟩⟩, ?_⟩
      rw [restLen_of q6.one.1, restLen_of HK.out.2.1.one.1]
      omega
    · obtain rfl : k = N - 1 := by omega
      have hst := HH.out.1.last
      have hno := HH.out.1.no (N - 1) hk
      rw [show Lib.indexByte (R (N - 1)) 10 = -1 by rw [hst]; exact indexByte_no hno] at hIx
      rw [hst] at hIx s0
      have HLN := (show Hid _ from hst)
      clear hst hno
      gi_wp2_with (first | (refine ⟨trivial, ?_⟩; gi_at_call 39; refine (callsIn_wide.2 hIx).mono ?_; rintro e w' ⟨rfl, rfl⟩) | fail)
      refine hRd.mono ?_
      rintro e w2 ⟨rfl, hm2, hr2⟩
      gi_wp2
      go_end0
      exact ⟨⟨_, rfl⟩, ⟨N - 1, by rw [show N - 1 + 1 = N by omega] at hm2; exact hm2⟩, hr2⟩
end Go.Proofs.YthfjmcomhccbaaaGreatDoor

namespace Go.Proofs.YthfjmcomhccbaaaGreatDoor
open Go.RowKit Tmx Evx
set_option maxRecDepth 60000
attribute [local go_sem] Oper.semAt_some

/-- Three blocks laid. -/
def laid3 (w : World) (s sep : List UInt8) : World := ((w.alloc (.cells #[.string ⟨s.toArray⟩] 9)).alloc (.cells #[.string ⟨sep.toArray⟩] 9)).alloc (.cells #[.int .i64 0] 3)
set_option maxHeartbeats 1000000 in
theorem splitSeq_any (s sep : List UInt8) (w : World) : Calls Tryz.prog 26 #[.string ⟨s.toArray⟩, .string ⟨sep.toArray⟩, .int .i64 0] w fun e w' => e = .returned (.func (.func 37) #[] #[.pointer (some ⟨w.heap.size + 1, 0, none⟩), .pointer (some ⟨w.heap.size, 0, none⟩), .pointer (some ⟨w.heap.size + 2, 0, none⟩)]) ∧ w' = laid3 w s sep := by
  unfold laid3
  go_enter Tryz.func26, Tryz.ntmps26
  go_wp2_with fail
  go_ret
  exact ⟨rfl, rfl⟩
set_option maxHeartbeats 1000000 in
theorem SplitSeq_any (s sep : List UInt8) (w : World) : Calls Tryz.prog 18 #[.string ⟨s.toArray⟩, .string ⟨sep.toArray⟩] w fun e w' => e = .returned (.func (.func 37) #[] #[.pointer (some ⟨w.heap.size + 1, 0, none⟩), .pointer (some ⟨w.heap.size, 0, none⟩), .pointer (some ⟨w.heap.size + 2, 0, none⟩)]) ∧ w' = laid3 w s sep := by
  have H := splitSeq_any s sep w
  go_enter Tryz.func18, Tryz.ntmps18
  go_wp2_with fail
  refine H.mono ?_
  rintro e w' ⟨rfl, rfl⟩
  go_wp2_with fail
  go_ret
  exact ⟨rfl, rfl⟩
theorem laid3_of (w : World) (s sep : List UInt8) : Below w.heap.size w (laid3 w s sep) ∧ Blk (laid3 w s sep) w.heap.size #[.string ⟨s.toArray⟩] 9 ∧ Blk (laid3 w s sep) (w.heap.size + 1) #[.string ⟨sep.toArray⟩] 9 ∧ Blk (laid3 w s sep) (w.heap.size + 2) #[.int .i64 0] 3 ∧ (laid3 w s sep).heap.size = w.heap.size + 3 := by
  unfold laid3
  refine ⟨(((Below.refl _ _).alloc (Nat.le_refl _) _).alloc (by simp) _).alloc (by simp; omega) _, ((Blk.new w _ _).alloc _).alloc _, ?_, ?_, by simp⟩
  · have := (Blk.new (w.alloc (.cells #[.string ⟨s.toArray⟩] 9)) #[.string ⟨sep.toArray⟩] 9).alloc (.cells #[.int .i64 0] 3)
    rw [World.size_alloc] at this
    exact this
  · have := Blk.new ((w.alloc (.cells #[.string ⟨s.toArray⟩] 9)).alloc (.cells #[.string ⟨sep.toArray⟩] 9)) #[.int .i64 0] 3
    rw [World.size_alloc, World.size_alloc] at this
    exact this

theorem uVds : Tryz.prog.underlying 35 = some (.slice 40) := by kernel_rfl
theorem iVd : (Tryz.prog.info? 40).map (fun i => (i.zero, i.size, i.bytes)) = some (some (.agg #[.int .i64 0, .int .i64 0]), 2, 16) := by kernel_rfl
/-- So many verdicts without an error. -/
def okVs (n : Nat) : List Value := List.replicate (n * 2) (.int .i64 0)

/-- What Load works with: N lines, of which ds is taken. -/
structure Loads (sg cf fu N : Nat) (R x : Nat → List UInt8) (ds : List Dcl) : Prop where
  lines : Lines N R x
  few : N ≤ 1000
  none : ∀ k, k < N → x k = [] → ds.length ≤ k
  upto : ds.length ≤ N
  take : ∀ k, k < N → x k ≠ [] → ∃ d A B, ds[k]? = some d ∧ Reads ((ds.take k).map Dcl.nm) (x k) d A B ∧ Fits sg cf fu (ds.take k) d true
  small : ∀ d, d ∈ ds → small d

/-- Between two rounds, k of which are over. -/
def Car (w : World) (lo tk vk : Nat) (ds : List Dcl) (k : Nat) (W : World) : Prop :=
  Below w.heap.size w W ∧ lo ≤ W.heap.size ∧ ∃ v u, Blk W tk #[v] 23 ∧ Blk W vk #[u] 35 ∧ DlIn lo W v (ds.take k) ∧ W.ownsRow lo 40 2 u (ds.take k).length (okVs (ds.take k).length)
theorem Blk.kept {W W' : World} {b : Nat} {cs : Array Value} {T : TypeId} (h : Blk W b cs T) (e : W'.heap[b]? = W.heap[b]?) : Blk W' b cs T := h.of_eq e
/-- Where a block is turned that is none of these. -/
theorem Car.other {w : World} {lo tk vk : Nat} {ds : List Dcl} {k : Nat} {W W' : World} {B : Nat} (h : Car w lo tk vk ds k W) (hb : W'.os = W.os ∧ W'.tape = W.tape ∧ W'.output = W.output) (hs : W.heap.size ≤ W'.heap.size) (hk : ∀ b, b < W.heap.size → b ≠ B → W'.heap[b]? = W.heap[b]?)
    (hB : w.heap.size ≤ B) (ht : tk ≠ B) (hv : vk ≠ B) (hc : B < lo ∨ ∃ o, W.heap[B]? = some o ∧ o.isCells = false) : Car w lo tk vk ds k W' := by
  obtain ⟨h1, h2, v, u, h3, h4, h5, h6⟩ := h
  have htl := h3.lt
  have hvl := h4.lt
  have hne : ∀ b, b < W.heap.size → lo ≤ b → (∃ cs T f, W.heap[b]? = some (.cells cs T f)) → b ≠ B := by
    rintro b hb hl ⟨cs, T, f, hcs⟩ rfl
    rcases hc with hc | ⟨o, ho, hn⟩
    · omega
    · rw [hcs] at ho
      cases ho
      cases hn
  have hcell : ∀ b o' z, lo ≤ b → W.cell? ⟨b, o', none⟩ = some z → W'.cell? ⟨b, o', none⟩ = some z := by
    intro b o' z hl hz
    have hlt := World.block_lt_of_cell? W ⟨b, o', none⟩ hz
    have hcs : ∃ cs T f, W.heap[b]? = some (.cells cs T f) := by
      unfold World.cell? at hz
      cases e : W.heap[b]? with
      | none => simp [e] at hz
      | some o => cases o <;> simp_all
    rw [World.cell?_of_block (w := W) (hk b hlt (hne b hlt hl hcs))]
    exact hz
  refine ⟨⟨hb.1.trans h1.os, hb.2.1.trans h1.tape, hb.2.2.trans h1.output, Nat.le_trans h1.size hs, fun b hbl => ?_⟩, Nat.le_trans h2 hs, v, u, h3.of_eq (hk _ htl ht), h4.of_eq (hk _ hvl hv), ?_, ?_⟩
  · rw [hk b (Nat.lt_of_lt_of_le hbl h1.size) (by omega)]
    exact h1.block b hbl
  · obtain ⟨xs, g1, g2⟩ := h5
    have hown : ∀ {b : Nat}, v.ownBlock = some b → lo ≤ b ∧ b < W.heap.size := fun {b} e => DlIn.lt (l := ds.take k) ⟨xs, g1, g2⟩ e
    refine ⟨xs, ownsRow_keep g1 fun b e => hk b (hown e).2 ?_, ?_⟩
    · obtain ⟨_, g3⟩ := g1
      rcases g3 with ⟨e0, _⟩ | ⟨g, cap, cur, e0, hg, hh, _⟩
      · rw [e0] at e; simp [Value.ownBlock] at e
      · have : g = b := by rw [e0] at e; simpa [Value.ownBlock] using e
        subst this
        exact hne g (hown (by rw [e0]; rfl)).2 hg ⟨_, _, _, hh⟩
    · refine g2.map fun {q f} hs' => (hs'.mono fun b h => ⟨h.1, Nat.lt_of_lt_of_le h.2 hs⟩).carry fun b o' z hq hz => hcell b o' z hq.1.1 hz
  · have hown := h6.lt
    refine ownsRow_keep h6 fun b e => hk b (hown b e).2 ?_
    obtain ⟨_, g3⟩ := h6
    rcases g3 with ⟨e0, _⟩ | ⟨g, cap, cur, e0, hg, hh, _⟩
    · rw [e0] at e; simp [Value.ownBlock] at e
    · have : g = b := by rw [e0] at e; simpa [Value.ownBlock] using e
      subst this
      exact hne g (hown g (by rw [e0]; rfl)).2 hg ⟨_, _, _, hh⟩
end Go.Proofs.YthfjmcomhccbaaaGreatDoor
