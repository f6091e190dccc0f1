/-
  The program's reader: one name more, names cut short; lists of terms beside its names.
-/
import Derived.Test.YtcgpjihfligdbaaDoorX5
namespace Go.Proofs.YtcgpjihfligdbaaDoor
open Go.RowKit Tmx
set_option maxRecDepth 60000

theorem RS.setB {lo r : Nat} {w : World} {ws ns ds : List (List UInt8)} {v : Value} (h : RS lo r w ws ns ds v) {v' : Value} {ns' : List (List UInt8)} (hN : NamesIn lo w v' ns') (ho : v'.ownBlock ≠ some r) : RS lo r (w.setCell ⟨r, 1, none⟩ v') ws ns' ds v' := by
  obtain ⟨pw, cw, pd, cd, h1, h2, h3, h4⟩ := h.blk
  have hl := h.lor
  exact ⟨⟨pw, cw, pd, cd, h1.setB v', h2.along fun b hb _ => Below.heap_setCell _ _ _ _ (by show b ≠ r; omega), h3, h4.along fun b hb _ => Below.heap_setCell _ _ _ _ (by show b ≠ r; omega)⟩,
    NamesIn.set hN ho v', ho, hl, h.vs.along fun g hg _ => Below.heap_setCell _ _ _ _ (by have := h.vs.1; show g ≠ r; omega)⟩

/-- A name is put behind those that are bound. -/
theorem rs_push {lo r : Nat} {w : World} {ws ns ds : List (List UInt8)} {v : Value} (h : RS lo r w ws ns ds v) (x : List UInt8) (hn : ns.length ≤ 4000000) :
    ∃ g cap w1, (Builtin.append_ #[36, 36] 36 #[v, .slice (some ⟨w.heap.size, 0, none⟩) 1 1]).run Tryd.prog (w.alloc (.cells #[.string ⟨x.toArray⟩] 9)) = .ok (.slice (some ⟨g, 0, none⟩) (ns.length + 1) cap) w1 ∧
      (w1.cell? ⟨r, 0, none⟩ = w.cell? ⟨r, 0, none⟩ ∧ w1.cell? ⟨r, 1, none⟩ = w.cell? ⟨r, 1, none⟩ ∧ w1.cell? ⟨r, 2, none⟩ = w.cell? ⟨r, 2, none⟩ ∧ w1.frozen? ⟨r, 1, none⟩ = w.frozen? ⟨r, 1, none⟩) ∧
      RS lo r (w1.setCell ⟨r, 1, none⟩ (.slice (some ⟨g, 0, none⟩) (ns.length + 1) cap)) ws (ns ++ [x]) ds (.slice (some ⟨g, 0, none⟩) (ns.length + 1) cap) ∧
      KB r v w (w1.setCell ⟨r, 1, none⟩ (.slice (some ⟨g, 0, none⟩) (ns.length + 1) cap)) ∧ OwnNew w v (.slice (some ⟨g, 0, none⟩) (ns.length + 1) cap) := by
  have hr := h.lt
  obtain ⟨g, cap, w1, hrun, hN, ho, h1, h2, h3, h4, h5⟩ := push_name w lo v ns h.names x hn (by have := h.lor; omega)
  have hrb : w1.heap[r]? = w.heap[r]? := h5 r hr h.own
  have hog : (Value.slice (some ⟨g, 0, none⟩) (ns.length + 1) cap).ownBlock ≠ some r := fun e => by
    rcases ho r e with h6 | h6
    · exact h.own h6
    · omega
  refine ⟨g, cap, w1, hrun, ⟨World.cell?_of_block hrb, World.cell?_of_block hrb, World.cell?_of_block hrb, World.frozen?_of_block hrb⟩, ?_, ?_, ho⟩
  · obtain ⟨pw, cw, pd, cd, b1, b2, b3, b4⟩ := h.blk
    have hl := h.lor
    have hlow : ∀ b, b < lo → b < w.heap.size → w1.heap[b]? = w.heap[b]? := fun b hb hs => h5 b hs fun e => by have := (h.ownlt b e).1; omega
    refine ⟨⟨pw, cw, pd, cd, (b1.of_block hrb).setB _, (b2.along hlow).along fun b hb _ => Below.heap_setCell _ _ _ _ (by show b ≠ r; omega), b3, (b4.along hlow).along fun b hb _ => Below.heap_setCell _ _ _ _ (by show b ≠ r; omega)⟩,
      NamesIn.set hN hog _, hog, hl, ?_⟩
    have hv1 := h.vs.along (w' := w1) fun g hg hs => hlow g (by have := h.vs.1; omega) hs
    exact hv1.along fun g hg _ => Below.heap_setCell _ _ _ _ (by have := h.vs.1; show g ≠ r; omega)
  · exact ⟨h1, h2, h3, by simpa [World.setCell] using h4, fun k hk hkr hv => by rw [Below.heap_setCell _ _ _ _ (by show k ≠ r; exact hkr)]; exact h5 k hk hv⟩

/-- A list of texts cut short. -/
theorem cut_texts {lo : Nat} {w : World} {p : Option Addr} {n cap : Nat} {ns : List (List UInt8)} (h : NamesIn lo w (.slice p n cap) ns) {m : Nat} (hm : m ≤ n) (hn : n = ns.length) :
    ∀ W : World, (Instr.sliceAt 36 (.slice p n cap) none (some (.int .i64 (m : Int))) none).run Tryd.prog W = .ok (.slice p m cap) W := by
  have hel : Tryd.prog.underlying 36 = some (.slice (Tryd.prog.elem 36)) := by kernel_rfl
  have hsz : ∀ W : World, (sizeOf (Tryd.prog.elem 36)).run Tryd.prog W = .ok 1 W := fun W => by kernel_rfl
  intro W
  obtain ⟨g1, g2⟩ := h
  rcases g2 with ⟨e, h0⟩ | ⟨g, cap', cur, e, hg, hh, hnn, _⟩
  · obtain ⟨rfl, rfl, rfl⟩ := Value.slice.inj e
    obtain rfl : m = 0 := by omega
    rw [run_sliceAt_slice _ _ _ _ _ _ hel, run_slice_h _ _ _ _ _ hel .i64 ((0 : Nat) : Int) (by omega) (by omega), hsz]
    simp [sliced, Result.andThen]
  · obtain ⟨rfl, rfl, rfl⟩ := Value.slice.inj e
    rw [run_sliceAt_slice _ _ _ _ _ _ hel, run_slice_h _ _ _ _ _ hel .i64 (m : Int) (by omega) (by omega), hsz]
    simp [sliced, Result.andThen]
    intro _
    unfold Addr.add
    split <;> simp_all

/-- The value v holds the terms A, in a row of one's own from the block lo on; what they hold lies elsewhere, from lo on; and all beside the row of bv. -/
def ArgsR (lo : Nat) (bv : Value) (w : World) (v : Value) (A : F) : Prop :=
  ∃ xs, w.ownsRow lo 24 3 v (len A) xs ∧ Cells (fun b => lo ≤ b ∧ v.ownBlock ≠ some b ∧ bv.ownBlock ≠ some b) w A xs ∧ ∀ b, v.ownBlock = some b → bv.ownBlock ≠ some b
theorem ArgsR.nil (lo : Nat) (bv : Value) (w : World) : ArgsR lo bv w (.slice none 0 0) .nil := ⟨[], World.ownsRow_nil w lo 24 3, rfl, fun b h => by simp [Value.ownBlock] at h⟩
theorem ArgsR.form {lo : Nat} {bv : Value} {w : World} {v : Value} {A : F} (h : ArgsR lo bv w v A) : ∃ p cap, v = .slice p (len A) cap := by
  obtain ⟨xs, ⟨_, h2⟩, _⟩ := h
  rcases h2 with ⟨rfl, h0⟩ | ⟨g, cap, cur, rfl, _⟩
  · exact ⟨none, 0, by rw [h0]⟩
  · exact ⟨_, _, rfl⟩
/-- Behind a call that has turned the reader, its names, and new blocks. -/
theorem ArgsR.along {lo r : Nat} {bv bv' : Value} {w w' : World} {v : Value} {A : F} (h : ArgsR lo bv w v A) (hb : KB r bv w w') (ho : OwnNew w bv bv') (hr : r < lo) : ArgsR lo bv' w' v A := by
  obtain ⟨xs, h1, h2, h3⟩ := h
  have hown := h1.lt
  have hnew : ∀ b, b < w.heap.size → bv.ownBlock ≠ some b → bv'.ownBlock ≠ some b := fun b hs hn e => by
    rcases ho b e with h4 | h4
    · exact hn h4
    · omega
  refine ⟨xs, ?_, h2.along fun b o u hq hc => ?_, fun b e => hnew b (hown b e).2 (h3 b e)⟩
  · obtain ⟨g1, g2⟩ := h1
    refine ⟨g1, ?_⟩
    rcases g2 with g2 | ⟨g, cap, cur, rfl, hg, hh, hrr⟩
    · exact .inl g2
    · exact .inr ⟨g, cap, cur, rfl, hg, by rw [hb.block g (hown g rfl).2 (by omega) (h3 g rfl)]; exact hh, hrr⟩
  · have hs := World.block_lt_of_cell? w ⟨b, o, none⟩ hc
    refine ⟨⟨hq.1, hq.2.1, hnew b hs hq.2.2⟩, ?_⟩
    rw [World.cell?_of_block (w := w) (hb.block b hs (by have := hq.1; omega) hq.2.2)]
    exact hc
/-- In a world with new blocks alone. -/
theorem ArgsR.below {lo : Nat} {bv : Value} {w w' : World} {v : Value} {A : F} (h : ArgsR lo bv w v A) (hb : Below w.heap.size w w') (hl : 0 < lo) : ArgsR lo bv w' v A :=
  h.along (r := 0) (.of_below hb) (OwnNew.refl _ _) hl
/-- Where a block ahead of lo is written. -/
theorem ArgsR.set {lo : Nat} {bv : Value} {w : World} {v : Value} {A : F} (h : ArgsR lo bv w v A) {x : Addr} (hx : x.block < lo) (u : Value) : ArgsR lo bv (w.setCell x u) v A :=
  h.along (r := x.block) ⟨rfl, rfl, rfl, by simp [World.setCell], fun k _ hk _ => Below.heap_setCell _ _ _ _ hk⟩ (OwnNew.refl _ _) hx
theorem ArgsR.slQ {lo : Nat} {bv : Value} {w : World} {p : Option Addr} {n cap : Nat} {A : F} (h : ArgsR lo bv w (.slice p n cap) A) : SlQ (fun b => lo ≤ b ∧ bv.ownBlock ≠ some b) w p A := by
  obtain ⟨xs, h1, h2, h3⟩ := h
  obtain ⟨g1, g2⟩ := h1
  rcases g2 with ⟨e, h0⟩ | ⟨g, cap', cur, e, hg, hh, hn, hm, hs, ht⟩
  · rw [size_nil_of_len A h0]
    exact ⟨0, 0, fun h => by simp [len] at h, trivial⟩
  · have he : p = some ⟨g, 0, none⟩ := by simpa using (Value.slice.inj e).1
    subst he
    refine ⟨g, 0, fun _ => rfl, ?_⟩
    have h2' : Cells (fun b => lo ≤ b ∧ bv.ownBlock ≠ some b) w A xs := h2.along fun b o u hq hc => ⟨⟨hq.1, hq.2.2⟩, hc⟩
    refine Cells.row ⟨hg, h3 g rfl⟩ A xs 0 h2' fun i hi => ?_
    rw [Nat.zero_add, cell_of_row w g i cur 24 (0, 0) hh, ← ht, List.getElem?_take, if_pos (by rw [← g1]; exact hi)]
    simp

/-- A term is appended. -/
theorem append_termR (w : World) (lo : Nat) (bv v : Value) (A : F) (hA : ArgsR lo bv w v A) (c : Nat) (k n : Int) (p : Option Addr) (cp : Nat) (L : F)
    (hL : SlQ (fun b => lo ≤ b ∧ v.ownBlock ≠ some b ∧ bv.ownBlock ≠ some b) w p L) (hbv : ∀ b, bv.ownBlock = some b → b < w.heap.size) (hlen : len A ≤ 1000000) (hlo : lo ≤ w.heap.size) (h0 : 0 < lo) :
    ∃ g cap w', (Builtin.append_ #[22, 22] 22 #[v, .slice (some ⟨w.heap.size, 0, none⟩) 1 c]).run Tryd.prog (w.alloc (.cells #[.int .i64 k, .int .i64 n, .slice p (len L) cp] 24)) = .ok (.slice (some ⟨g, 0, none⟩) (len A + 1) cap) w' ∧
      ArgsR lo bv w' (.slice (some ⟨g, 0, none⟩) (len A + 1) cap) (snoc A (k, n, L)) ∧ w'.os = w.os ∧ w'.tape = w.tape ∧ w'.output = w.output ∧ w.heap.size ≤ w'.heap.size ∧ (∀ b, b < w.heap.size → v.ownBlock ≠ some b → w'.heap[b]? = w.heap[b]?) := by
  obtain ⟨i, hi, he⟩ := Option.map_eq_some_iff.1 i24
  simp only [Prod.mk.injEq] at he
  obtain ⟨hz, hs, hb⟩ := he
  have hbA : Below w.heap.size w (w.alloc (.cells #[.int .i64 k, .int .i64 n, .slice p (len L) cp] 24)) := (Below.refl _ _).alloc (Nat.le_refl _) _
  have hsz : (w.alloc (.cells #[.int .i64 k, .int .i64 n, .slice p (len L) cp] 24)).heap.size = w.heap.size + 1 := by simp
  have hB : (w.alloc (.cells #[.int .i64 k, .int .i64 n, .slice p (len L) cp] 24)).heap[w.heap.size]? = some (.cells #[.int .i64 k, .int .i64 n, .slice p (len L) cp] 24 (0, 0)) := heap_alloc_new _ _
  obtain ⟨xs, h1, h2, h3⟩ := hA.below hbA h0
  have hown := h1.lt
  obtain ⟨g, cap, w', hr, ho, hg, hat, hlt⟩ := run_append_lies (P := Tryd.prog) (w.alloc (.cells #[.int .i64 k, .int .i64 n, .slice p (len L) cp] 24)) 22 22 lo 24 i _ 3 40 u22 hi hz hs hb rfl (by decide) v (len A) xs h1 ⟨w.heap.size, 0, none⟩ 1 c [.int .i64 k, .int .i64 n, .slice p (len L) cp] rfl
    (World.news_of_block hB) (by simp [Value.oneCell']) (by decide) (by simp only [maxLen]; omega) (by omega) (by omega) (w.alloc (.cells #[.int .i64 k, .int .i64 n, .slice p (len L) cp] 24)).heap.size rfl
  rw [hsz] at hat
  have hz1 := hg.size
  rw [hsz] at hz1
  have hgn : ∀ b, b < w.heap.size + 1 → v.ownBlock ≠ some b → g ≠ b := fun b hb hn e => by
    subst e
    rcases hat with h | h
    · exact hn h
    · omega
  have hgb : bv.ownBlock ≠ some g := fun e => by
    rcases hat with h | h
    · exact h3 g h e
    · have := hbv g e; omega
  have hc : ∀ b o u, (lo ≤ b ∧ v.ownBlock ≠ some b ∧ bv.ownBlock ≠ some b) → (w.alloc (.cells #[.int .i64 k, .int .i64 n, .slice p (len L) cp] 24)).cell? ⟨b, o, none⟩ = some u → (lo ≤ b ∧ (Value.slice (some ⟨g, 0, none⟩) (len A + 1) cap).ownBlock ≠ some b ∧ bv.ownBlock ≠ some b) ∧ w'.cell? ⟨b, o, none⟩ = some u := by
    intro b o u hq hu
    have hbl := World.block_lt_of_cell? _ ⟨b, o, none⟩ hu
    rw [hsz] at hbl
    refine ⟨⟨hq.1, fun e => hgn b hbl hq.2.1 (by simpa [Value.ownBlock] using e), hq.2.2⟩, hg.cell hu (fun e => hq.2.1 e.symm)⟩
  refine ⟨g, cap, w', hr, ⟨xs ++ [.int .i64 k, .int .i64 n, .slice p (len L) cp], by rw [len_snoc]; exact ho, ?_, fun b e => ?_⟩, hg.os, hg.tape, hg.output, by omega, fun b hb hv => ?_⟩
  · have hL' : SlQ (fun b => lo ≤ b ∧ v.ownBlock ≠ some b ∧ bv.ownBlock ≠ some b) (w.alloc (.cells #[.int .i64 k, .int .i64 n, .slice p (len L) cp] 24)) p L := hL.along fun b o u hq hu => ⟨hq, below_some hbA b o u hu⟩
    exact Cells.snoc (hL'.along hc) A xs (h2.along hc)
  · have : g = b := by simpa [Value.ownBlock] using e
    rw [← this]
    exact hgb
  · rw [hg.block b (by omega) (fun e => hv e.symm)]
    exact Below.heap_alloc _ _ _ hb
end Go.Proofs.YtcgpjihfligdbaaDoor
