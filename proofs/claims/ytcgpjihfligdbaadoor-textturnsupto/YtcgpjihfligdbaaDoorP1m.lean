/-
  The program's writer as it lies in memory: a strings.Builder, what is bound, what is declared; what the builder's methods do there.
-/
/-
  The program's writer: what is written, at last; names by their places; words of kinds.
-/
import Derived.Test.YtcgpjihfligdbaaDoorX9
import Derived.Lib.AppendStr
import Derived.Lib.Builder
import Derived.Lib.UnsafeStr
import Derived.Laws.Externs
import Derived.Deep.RegionHeld3
namespace Go.Proofs.YtcgpjihfligdbaaDoor
open Go.RowKit Tmx
set_option maxRecDepth 60000

theorem uB : Tryd.prog.underlying 82 = some (.slice 5) := by kernel_rfl
theorem u9s : Tryd.prog.underlying 9 = some .string := by kernel_rfl
theorem i5 : (Tryd.prog.info? 5).map (fun i => (i.zero, i.size, i.bytes)) = some (some (.int .u8 0), 1, 1) := by kernel_rfl

/-- A step by an append of a text whose run is known. -/
theorem wpList_append_run2 {P : Program} {ops : Array Oper} {rest : List Oper} {o : Oper} {a : Act} {Q : Exit → Act → World → Prop} {w w' : World} (hgd : o.guard = none) (s x : Operand) (t t' : TypeId)
    (ho : o.op = .call { callee := .builtin .append, args := #[s, x], argTypes := #[t, t'] }) (v1 v2 v' : Value) (hs : a.eval s = v1) (hx : a.eval x = v2)
    (hr : (Builtin.append_ #[t, t'] o.type #[v1, v2]).run P w = .ok v' w') (h : wpList P ops Q rest (a.put o.dst v') w') : wpList P ops Q (o :: rest) a w :=
  wpList_plain hgd fun _ hK => by
    unfold Oper.wp execOp
    simp only [ho, resolve, invoke, builtin, Sem.run_bind, Sem.run_pure, Result.andThen_ok, List.map_toArray, List.map_cons, List.map_nil, hs, hx, hr]
    exact hK _ _ h

/-- The block b is the program's writer. -/
def WB (w : World) (b : Nat) (A U B D : Value) : Prop := w.heap[b]? = some (.cells #[A, U, B, D] 86 (0, 0))
theorem WB.lt {w : World} {b : Nat} {A U B D : Value} (h : WB w b A U B D) : b < w.heap.size := by
  obtain ⟨hlt, _⟩ := Array.getElem?_eq_some_iff.1 h
  exact hlt
theorem WB.facts {w : World} {b : Nat} {A U B D : Value} (h : WB w b A U B D) :
    w.cell? ⟨b, 0, none⟩ = some A ∧ w.cell? ⟨b, 1, none⟩ = some U ∧ w.cell? ⟨b, 2, none⟩ = some B ∧ w.cell? ⟨b, 3, none⟩ = some D ∧ w.frozen? ⟨b, 0, none⟩ = false ∧ w.frozen? ⟨b, 1, none⟩ = false ∧ w.frozen? ⟨b, 2, none⟩ = false := by
  unfold WB at h
  simp [World.cell?, World.frozen?, h]
theorem WB.of_block {w w' : World} {b : Nat} {A U B D : Value} (h : WB w b A U B D) (e : w'.heap[b]? = w.heap[b]?) : WB w' b A U B D := by
  unfold WB
  rw [e]
  exact h
theorem WB.set0 {w : World} {b : Nat} {A U B D : Value} (h : WB w b A U B D) (A' : Value) : WB (w.setCell ⟨b, 0, none⟩ A') b A' U B D := by
  unfold WB at *
  simp [World.setCell, Array.getElem?_modify, h]
theorem WB.set1 {w : World} {b : Nat} {A U B D : Value} (h : WB w b A U B D) (U' : Value) : WB (w.setCell ⟨b, 1, none⟩ U') b A U' B D := by
  unfold WB at *
  simp [World.setCell, Array.getElem?_modify, h]
theorem WB.set2 {w : World} {b : Nat} {A U B D : Value} (h : WB w b A U B D) (B' : Value) : WB (w.setCell ⟨b, 2, none⟩ B') b A U B' D := by
  unfold WB at *
  simp [World.setCell, Array.getElem?_modify, h]

/-- What is left as it was: what lies ahead of lo, and blocks of other types than the writer's own. -/
structure KP (lo : Nat) (w w' : World) : Prop where
  os : w'.os = w.os
  tape : w'.tape = w.tape
  output : w'.output = w.output
  size : w.heap.size ≤ w'.heap.size
  low : ∀ k, k < lo → k < w.heap.size → w'.heap[k]? = w.heap[k]?
  oth : ∀ (k : Nat) (cs : Array Value) (t : TypeId) (f : Nat × Nat), w.heap[k]? = some (Obj.cells cs t f) → t ≠ 5 → t ≠ 9 → t ≠ 86 → w'.heap[k]? = some (Obj.cells cs t f)
theorem KP.refl (lo : Nat) (w : World) : KP lo w w := ⟨rfl, rfl, rfl, Nat.le_refl _, fun _ _ _ => rfl, fun _ _ _ _ h _ _ _ => h⟩
theorem KP.trans {lo : Nat} {a b c : World} (h : KP lo a b) (k : KP lo b c) : KP lo a c :=
  ⟨k.os.trans h.os, k.tape.trans h.tape, k.output.trans h.output, Nat.le_trans h.size k.size, fun i hi hs => (k.low i hi (Nat.lt_of_lt_of_le hs h.size)).trans (h.low i hi hs), fun i cs t f h1 h2 h3 h4 => k.oth i cs t f (h.oth i cs t f h1 h2 h3 h4) h2 h3 h4⟩
theorem KP.of_below {lo : Nat} {w w' : World} (h : Below w.heap.size w w') : KP lo w w' :=
  ⟨h.os, h.tape, h.output, h.size, fun k _ hs => h.block k hs, fun k cs t f hk _ _ _ => by
    rw [h.block k (by obtain ⟨hlt, _⟩ := Array.getElem?_eq_some_iff.1 hk; exact hlt)]
    exact hk⟩
theorem KP.below {lo : Nat} {w w' : World} (h : KP lo w w') (hl : lo ≤ w.heap.size) : Below lo w w' := ⟨h.os, h.tape, h.output, h.size, fun k hk => h.low k hk (by omega)⟩
theorem KP.box {lo : Nat} {w w' : World} (h : KP lo w w') {B : Nat} {a b c : Value} (hx : Box w B a b c) : Box w' B a b c := h.oth B _ 24 _ hx (by decide) (by decide) (by decide)
theorem KP.set {lo : Nat} {w : World} {b k : Nat} {A U B D : Value} (h : WB w b A U B D) (hl : lo ≤ b) (u : Value) : KP lo w (w.setCell ⟨b, k, none⟩ u) :=
  ⟨rfl, rfl, rfl, by simp [World.setCell], fun i hi _ => Below.heap_setCell _ _ _ _ (by show i ≠ b; omega), fun i cs t f h1 _ _ h4 => by
    rw [Below.heap_setCell _ _ _ _ (by
      show i ≠ b
      intro e
      subst e
      rw [h] at h1
      simp at h1
      exact h4 h1.2.1.symm)]
    exact h1⟩
/-- Behind an append to a row of one's own, of letters or names. -/
theorem KP.grown {lo : Nat} {w w' : World} {v : Value} {n : Nat} {xs : List Value} {e : TypeId} (ho : w.ownsRow lo e 1 v n xs) (he : e = 5 ∨ e = 9) (hg : w.grownBy w' v.ownBlock) : KP lo w w' :=
  ⟨hg.os, hg.tape, hg.output, hg.size, fun k hk hs => hg.block k hs fun e2 => by have := (ho.lt k e2.symm).1; omega, fun k cs t f h1 h2 h3 _ => by
    rw [hg.block k (by obtain ⟨hlt, _⟩ := Array.getElem?_eq_some_iff.1 h1; exact hlt) (fun e2 => by
      rcases ho.2 with ⟨rfl, _⟩ | ⟨g, cap, cur, rfl, _, hh, _⟩
      · simp [Value.ownBlock] at e2
      · have : k = g := by simpa [Value.ownBlock] using e2
        subst this
        rw [hh] at h1
        simp at h1
        rcases he with rfl | rfl
        · exact h2 h1.2.1.symm
        · exact h3 h1.2.1.symm)]
    exact h1⟩

/-- The letters l, in a row of one's own from the block lo on; none: no row yet. -/
def BufIn (lo : Nat) (w : World) (v : Value) (l : List UInt8) : Prop := w.ownsRow lo 5 1 v l.length (Lib.byteCells l) ∧ (l = [] → v = .slice none 0 0)
/-- A row stays where its block does. -/
theorem ownsRow_along {lo : Nat} {w w' : World} {v : Value} {n : Nat} {xs : List Value} {e : TypeId} (h : w.ownsRow lo e 1 v n xs) (hb : ∀ b, v.ownBlock = some b → w'.heap[b]? = w.heap[b]?) : w'.ownsRow lo e 1 v n xs := by
  obtain ⟨g1, g2⟩ := h
  refine ⟨g1, ?_⟩
  rcases g2 with g2 | ⟨g, cap, cur, rfl, hg, hh, hrr⟩
  · exact .inl g2
  · exact .inr ⟨g, cap, cur, rfl, hg, by rw [hb g rfl]; exact hh, hrr⟩
/-- Rows of two types, or a row and the writer, lie in two blocks. -/
theorem rows_apart {lo : Nat} {w : World} {v v' : Value} {n n' : Nat} {xs xs' : List Value} {e e' : TypeId} (h : w.ownsRow lo e 1 v n xs) (h' : w.ownsRow lo e' 1 v' n' xs') (hne : e ≠ e') (b : Nat) (hb : v.ownBlock = some b) : v'.ownBlock ≠ some b := by
  intro hb'
  rcases h.2 with ⟨rfl, _⟩ | ⟨g, cap, cur, rfl, _, hh, _⟩
  · simp [Value.ownBlock] at hb
  · rcases h'.2 with ⟨rfl, _⟩ | ⟨g', cap', cur', rfl, _, hh', _⟩
    · simp [Value.ownBlock] at hb'
    · have h1 : g = b := by simpa [Value.ownBlock] using hb
      have h2 : g' = b := by simpa [Value.ownBlock] using hb'
      subst h1
      subst h2
      rw [hh] at hh'
      simp only [Option.some.injEq, Obj.cells.injEq] at hh'
      exact hne hh'.2.1
theorem row_writer {lo b : Nat} {w : World} {v A U B D : Value} {n : Nat} {xs : List Value} {e : TypeId} (h : w.ownsRow lo e 1 v n xs) (hw : WB w b A U B D) (hne : e ≠ 86) : v.ownBlock ≠ some b := by
  intro hb
  rcases h.2 with ⟨rfl, _⟩ | ⟨g, cap, cur, rfl, _, hh, _⟩
  · simp [Value.ownBlock] at hb
  · have h1 : g = b := by simpa [Value.ownBlock] using hb
    subst h1
    rw [hw] at hh
    simp at hh
    exact hne hh.2.symm

/-- The writer b: the text l is written, the names ns are bound (in the row bv), ds declared. -/
structure WS (lo b : Nat) (w : World) (l : List UInt8) (ns ds : List (List UInt8)) (bv : Value) : Prop where
  blk : ∃ A U pd cd, WB w b A U bv (.slice pd ds.length cd) ∧ (A = .pointer none ∨ A = .pointer (some ⟨b, 0, none⟩)) ∧ BufIn lo w U l ∧ Tx lo w pd ds
  names : NamesIn lo w bv ns
  lob : lo ≤ b
  vs : Vs lo w
theorem WS.lt {lo b : Nat} {w : World} {l : List UInt8} {ns ds : List (List UInt8)} {bv : Value} (h : WS lo b w l ns ds bv) : b < w.heap.size := by
  obtain ⟨_, _, _, _, h1, _⟩ := h.blk
  exact h1.lt
theorem WS.below {lo b : Nat} {w w' : World} {l : List UInt8} {ns ds : List (List UInt8)} {bv : Value} (h : WS lo b w l ns ds bv) (hb : Below w.heap.size w w') : WS lo b w' l ns ds bv := by
  obtain ⟨A, U, pd, cd, h1, h2, h3, h4⟩ := h.blk
  refine ⟨⟨A, U, pd, cd, h1.of_block (hb.block _ h1.lt), h2, ⟨ownsRow_along h3.1 fun b e => hb.block _ (h3.1.lt b e).2, h3.2⟩, h4.along fun b _ hs => hb.block b hs⟩, h.names.along fun b _ hs => hb.block b hs, h.lob, h.vs.along fun g _ hs => hb.block g hs⟩

set_option maxRecDepth 100000 in
set_option maxHeartbeats 1000000 in
theorem copyCheck_used (b : Nat) (w : World) (h0 : w.cell? ⟨b, 0, none⟩ = some (.pointer (some ⟨b, 0, none⟩))) :
    Calls Tryd.prog 98 #[.pointer (some ⟨b, 0, none⟩)] w fun e w' => e = .returned (.tuple #[]) ∧ w' = w := by
  have hp : Tryd.prog.underlying 81 = some (.pointer 84) := by kernel_rfl
  obtain ⟨j, hj, _⟩ := Option.map_eq_some_iff.1 (show (Tryd.prog.info? 84).map (·.size) = some 2 by kernel_rfl)
  go_enter Tryd.func98, Tryd.ntmps98
  go_wp2
  rw [Lib.run_neq_ptr_same w _ hp hj]
  go_wp2
  go_end0
  exact ⟨rfl, rfl⟩
set_option maxRecDepth 100000 in
set_option maxHeartbeats 1000000 in
theorem copyCheck_fresh (b : Nat) (w : World) (h0 : w.cell? ⟨b, 0, none⟩ = some (.pointer none)) (hsh : w.shape? b = some (86, 4)) (hfz : w.frozen? ⟨b, 0, none⟩ = false) :
    Calls Tryd.prog 98 #[.pointer (some ⟨b, 0, none⟩)] w fun e w' => e = .returned (.tuple #[]) ∧ w' = w.setCell ⟨b, 0, none⟩ (.pointer (some ⟨b, 0, none⟩)) := by
  have hp : Tryd.prog.underlying 81 = some (.pointer 84) := by kernel_rfl
  have hu : Tryd.prog.underlying 138 = some .unsafePointer := by kernel_rfl
  obtain ⟨j, hj, hjs⟩ := Option.map_eq_some_iff.1 (show (Tryd.prog.info? 84).map (·.size) = some 2 by kernel_rfl)
  have hlies : liesAt Tryd.prog Tryd.prog.depth 86 (4 / Tryd.prog.cellsOf 86) 0 84 1 = true := by kernel_rfl
  go_enter Tryd.func98, Tryd.ntmps98
  go_wp2
  rw [Lib.run_to_unsafe w ⟨b, 0, none⟩ hp hu hj (by rw [hjs]; decide) hsh (Nat.zero_lt_succ 3)]
  simp only [Result.andThen]
  rw [Oper.upon_value]
  go_wp2
  rw [show ∀ x : Value, (callFunc 108 #[x]).run Tryd.prog w = .ok (.value x) w from fun x => by kernel_rfl]
  rw [Oper.upon_value]
  go_wp2
  rw [Lib.run_from_unsafe w ⟨b, 0, none⟩ hu hp hj hsh hlies]
  simp only [Result.andThen]
  rw [Oper.upon_value]
  go_wp2
  go_end0
  exact ⟨rfl, rfl⟩

theorem WS.used {lo b : Nat} {w : World} {l : List UInt8} {ns ds : List (List UInt8)} {bv : Value} (h : WS lo b w l ns ds bv) :
    Calls Tryd.prog 98 #[.pointer (some ⟨b, 0, none⟩)] w fun e w' => e = .returned (.tuple #[]) ∧ (∃ U pd cd, WB w' b (.pointer (some ⟨b, 0, none⟩)) U bv (.slice pd ds.length cd) ∧ BufIn lo w' U l ∧ Tx lo w' pd ds) ∧ NamesIn lo w' bv ns ∧ Vs lo w' ∧ KP lo w w' := by
  obtain ⟨A, U, pd, cd, h1, h2, h3, h4⟩ := h.blk
  have hlb := h.lob
  rcases h2 with rfl | rfl
  · refine (copyCheck_fresh b w h1.facts.1 (by unfold WB at h1; simp [World.shape?, h1]) h1.facts.2.2.2.2.1).mono ?_
    rintro e w' ⟨rfl, rfl⟩
    have hbl := row_writer h3.1 h1 (by decide)
    have hnl := row_writer h.names h1 (by decide)
    exact ⟨rfl, ⟨U, pd, cd, h1.set0 _, ⟨ownsRow_along h3.1 fun k e => Below.heap_setCell _ _ _ _ (fun e2 => hbl (by rw [e, e2])), h3.2⟩, h4.along fun k hk _ => Below.heap_setCell _ _ _ _ (by show k ≠ b; omega)⟩,
      ownsRow_along h.names fun k e => Below.heap_setCell _ _ _ _ (fun e2 => hnl (by rw [e, e2])), h.vs.along fun g hg _ => Below.heap_setCell _ _ _ _ (by have := h.vs.1; show g ≠ b; omega), KP.set h1 hlb _⟩
  · refine (copyCheck_used b w h1.facts.1).mono ?_
    rintro e w' ⟨rfl, rfl⟩
    exact ⟨rfl, ⟨U, pd, cd, h1, h3, h4⟩, h.names, h.vs, KP.refl _ _⟩

theorem byteCells_append (l s : List UInt8) : Lib.byteCells l ++ Lib.byteCells s = Lib.byteCells (l ++ s) := by simp [Lib.byteCells]
/-- What is written behind: the writer again. -/
theorem WS.grow {lo b : Nat} {w w2 : World} {l l' : List UInt8} {ns ds : List (List UInt8)} {bv U U' : Value} {pd : Option Addr} {cd : Nat} (h1 : WB w b (.pointer (some ⟨b, 0, none⟩)) U bv (.slice pd ds.length cd)) (h3 : BufIn lo w U l) (h4 : Tx lo w pd ds) (hn : NamesIn lo w bv ns) (hv : Vs lo w) (hlb : lo ≤ b)
    (hg : w.grownBy w2 U.ownBlock) (hU : BufIn lo w2 U' l') : WB w2 b (.pointer (some ⟨b, 0, none⟩)) U bv (.slice pd ds.length cd) ∧ WS lo b (w2.setCell ⟨b, 1, none⟩ U') l' ns ds bv ∧ KP lo w (w2.setCell ⟨b, 1, none⟩ U') := by
  have hbl := row_writer h3.1 h1 (by decide)
  have hlt := h1.lt
  have h2 : WB w2 b (.pointer (some ⟨b, 0, none⟩)) U bv (.slice pd ds.length cd) := h1.of_block (hg.block b hlt (fun e => hbl e.symm))
  have kp := KP.grown h3.1 (.inl rfl) hg
  have hap := rows_apart h3.1 hn (by decide)
  have hn2 : NamesIn lo w2 bv ns := ownsRow_along hn fun k e => hg.block k (hn.lt k e).2 (fun e2 => hap k e2.symm e)
  have hnl := row_writer hn2 h2 (by decide)
  have hul := row_writer hU.1 h2 (by decide)
  have hlow : ∀ k, k < lo → k < w.heap.size → w2.heap[k]? = w.heap[k]? := kp.low
  refine ⟨h2, ⟨⟨_, U', pd, cd, h2.set1 _, .inr rfl, ⟨ownsRow_along hU.1 fun k e => Below.heap_setCell _ _ _ _ (fun e2 => hul (by rw [e, e2])), hU.2⟩, (h4.along hlow).along fun k hk _ => Below.heap_setCell _ _ _ _ (by show k ≠ b; omega)⟩,
    ownsRow_along hn2 fun k e => Below.heap_setCell _ _ _ _ (fun e2 => hnl (by rw [e, e2])), hlb, ?_⟩, kp.trans (KP.set h2 hlb _)⟩
  exact (hv.along fun g hg2 hs => hlow g (by have := hv.1; omega) hs).along fun g hg2 _ => Below.heap_setCell _ _ _ _ (by have := hv.1; show g ≠ b; omega)

set_option maxRecDepth 100000 in
set_option maxHeartbeats 2000000 in
theorem writeString_any {lo b : Nat} {w : World} {l : List UInt8} {ns ds : List (List UInt8)} {bv : Value} (h : WS lo b w l ns ds bv) (s : List UInt8) (hlen : l.length + s.length ≤ 140737488355328) :
    Calls Tryd.prog 82 #[.pointer (some ⟨b, 0, none⟩), .string ⟨s.toArray⟩] w fun e w' => (∃ v, e = .returned v) ∧ WS lo b w' (l ++ s) ns ds bv ∧ KP lo w w' := by
  have hlb := h.lob
  go_enter Tryd.func82, Tryd.ntmps82
  go_wp2_with fail
  refine h.used.mono ?_
  rintro e w1 ⟨rfl, ⟨U, pd, cd, h1, h3, h4⟩, hn, hv, hk⟩
  obtain ⟨i, hi, he⟩ := Option.map_eq_some_iff.1 i5
  simp only [Prod.mk.injEq] at he
  obtain ⟨hz, hs, hb⟩ := he
  have hlt := h1.lt
  have hsz : (⟨s.toArray⟩ : ByteArray).size = s.length := by simp [ByteArray.size]
  obtain ⟨U', w2, hr, hU, hg, hnil⟩ := Lib.run_append_own_string (P := Tryd.prog) w1 lo 82 9 82 5 i uB u9s hi hz hs hb U l.length (Lib.byteCells l) h3.1 ⟨s.toArray⟩ (by rw [hsz]; simp only [maxLen]; omega) (by rw [hsz]; omega) (by omega)
  have hU' : BufIn lo w2 U' (l ++ s) := by
    refine ⟨?_, fun e => hnil.2 ?_⟩
    · rw [List.length_append, ← byteCells_append]
      have : Lib.strCells ⟨s.toArray⟩ = Lib.byteCells s := by rw [Lib.strCells_eq]
      rw [this, hsz] at hU
      exact hU
    · have h0 := List.append_eq_nil_iff.1 e
      exact ⟨h3.2 h0.1, by rw [hsz, h0.2]; rfl⟩
  obtain ⟨h2, hS, kp⟩ := WS.grow h1 h3 h4 hn hv hlb hg hU'
  have HRP : Hid ((Builtin.append_ #[82, 9] 82 #[U, .string ⟨s.toArray⟩]).run Tryd.prog w1 = .ok U' w2) := hr
  obtain ⟨c0, c1, c2, c3, f0, f1, f2⟩ := h1.facts
  obtain ⟨d0, d1, d2, d3, g0, g1, g2⟩ := h2.facts
  obtain ⟨pu, nu, cu, rfl⟩ : ∃ p n c, U' = .slice p n c := by
    rcases hU.2 with ⟨e, _⟩ | ⟨g, cap, cur, e, _⟩
    · exact ⟨_, _, _, e⟩
    · exact ⟨_, _, _, e⟩
  clear hr hU hnil hg c0 c2 c3 d0 d2 d3 f0 f2 g0 g2 h
  go_wp2_with (first | (at_builtin; refine wpList_append_run2 rfl _ _ 82 9 rfl _ _ _ rfl rfl HRP.out ?_; clear HRP) | fail)
  go_ret2
  exact ⟨⟨_, rfl⟩, hS, hk.trans kp⟩
set_option maxRecDepth 100000 in
set_option maxHeartbeats 2000000 in
theorem writeByte_any {lo b : Nat} {w : World} {l : List UInt8} {ns ds : List (List UInt8)} {bv : Value} (h : WS lo b w l ns ds bv) (c : UInt8) (hlen : l.length + 1 ≤ 140737488355328) :
    Calls Tryd.prog 100 #[.pointer (some ⟨b, 0, none⟩), .int .u8 (c.toNat : Int)] w fun e w' => (∃ v, e = .returned v) ∧ WS lo b w' (l ++ [c]) ns ds bv ∧ KP lo w w' := by
  have hlb := h.lob
  go_enter Tryd.func100, Tryd.ntmps100
  go_wp2_with fail
  refine h.used.mono ?_
  rintro e w1 ⟨rfl, ⟨U, pd, cd, h1, h3, h4⟩, hn, hv, hk⟩
  obtain ⟨i, hi, he⟩ := Option.map_eq_some_iff.1 i5
  simp only [Prod.mk.injEq] at he
  obtain ⟨hz, hs, hb⟩ := he
  have hlt := h1.lt
  have hbA : Below w1.heap.size w1 (w1.alloc (.cells #[.int .u8 (c.toNat : Int)] 5)) := (Below.refl _ _).alloc (Nat.le_refl _) _
  have h3' : BufIn lo (w1.alloc (.cells #[.int .u8 (c.toNat : Int)] 5)) U l := ⟨ownsRow_along h3.1 fun k e => hbA.block k (h3.1.lt k e).2, h3.2⟩
  have h1' : WB (w1.alloc (.cells #[.int .u8 (c.toNat : Int)] 5)) b (.pointer (some ⟨b, 0, none⟩)) U bv (.slice pd ds.length cd) := h1.of_block (hbA.block b hlt)
  have hB : (w1.alloc (.cells #[.int .u8 (c.toNat : Int)] 5)).heap[w1.heap.size]? = some (.cells #[.int .u8 (c.toNat : Int)] 5 (0, 0)) := heap_alloc_new _ _
  obtain ⟨g, cap, w2, hr, hU, hg, _, _⟩ := run_append_lies (P := Tryd.prog) (w1.alloc (.cells #[.int .u8 (c.toNat : Int)] 5)) 82 82 lo 5 i _ 1 1 uB hi hz hs hb rfl (by decide) U l.length _ h3'.1 ⟨w1.heap.size, 0, none⟩ 1 1 [.int .u8 (c.toNat : Int)] rfl
    (World.news_of_block hB) (by simp [Value.oneCell']) (by decide) (by simp only [maxLen]; omega) (by omega) (by simp; omega) _ rfl
  have hU' : BufIn lo w2 (.slice (some ⟨g, 0, none⟩) (l.length + 1) cap) (l ++ [c]) := by
    refine ⟨?_, fun e => by simp at e⟩
    rw [List.length_append, ← byteCells_append]
    exact hU
  obtain ⟨h2, hS, kp⟩ := WS.grow h1' h3' (h4.along fun k _ hs => hbA.block k hs) (ownsRow_along hn fun k e => hbA.block k (hn.lt k e).2) (hv.along fun g _ hs => hbA.block g hs) hlb hg hU'
  have HRP : Hid ((Builtin.append_ #[82, 82] 82 #[U, .slice (some ⟨w1.heap.size, 0, none⟩) 1 1]).run Tryd.prog (w1.alloc (.cells #[.int .u8 (c.toNat : Int)] 5)) = .ok (.slice (some ⟨g, 0, none⟩) (l.length + 1) cap) w2) := hr
  obtain ⟨c0, c1, c2, c3, f0, f1, f2⟩ := h1.facts
  obtain ⟨d0, d1, d2, d3, g0, g1, g2⟩ := h2.facts
  have kA : KP lo w1 (w1.alloc (.cells #[.int .u8 (c.toNat : Int)] 5)) := KP.of_below hbA
  clear hr hU hg c0 c2 c3 d0 d2 d3 f0 f2 g0 g2 h
  go_wp2_with (first | (at_builtin; refine wpList_append_run2 rfl _ _ 82 82 rfl _ _ _ rfl rfl HRP.out ?_; clear HRP) | fail)
  go_ret
  exact ⟨⟨_, rfl⟩, hS, (hk.trans kA).trans kp⟩
end Go.Proofs.YtcgpjihfligdbaaDoor

namespace Go.Proofs.YtcgpjihfligdbaaDoor
open Go.RowKit Tmx
set_option maxRecDepth 60000

set_option maxRecDepth 100000 in
set_option maxHeartbeats 2000000 in
theorem bstring_any {lo b : Nat} {w : World} {l : List UInt8} {ns ds : List (List UInt8)} {bv : Value} (h : WS lo b w l ns ds bv) :
    Calls Tryd.prog 55 #[.pointer (some ⟨b, 0, none⟩)] w fun e w' => e = .returned (.string ⟨l.toArray⟩) ∧ Below lo w w' := by
  obtain ⟨A, U, pd, cd, h1, h2, h3, h4⟩ := h.blk
  have hlo : lo ≤ w.heap.size := by have := h.lt; have := h.lob; omega
  clear h h4
  by_cases h0 : l = []
  · obtain rfl := h3.2 h0
    subst h0
    have c1 : w.drew.cell? ⟨b, 1, none⟩ = some (.slice none 0 0) := h1.facts.2.1
    have hSD : (Builtin.unsafeSliceData_ #[82] 118 #[.slice none 0 0]).run Tryd.prog w.drew = .ok (.pointer none) w.drew := rfl
    have hUS : (Builtin.unsafeString_ #[118, 3] 9 #[.pointer none, .int .i64 0]).run Tryd.prog w.drew = .ok (.string .empty) w.drew := Lib.run_unsafeString_none w.drew _ _ _ none
    clear h1 h3
    go_enter Tryd.func55, Tryd.ntmps55
    go_wp2
    go_region
    all_goals (go_wp2; go_ret; exact ⟨rfl, Below.drew (Below.refl lo w)⟩)
  · have hl0 : l.length ≠ 0 := by simpa using h0
    obtain ⟨g, cap, cur, rfl, hbg, hg, hnc, hcm, hcs, htake⟩ : ∃ g cap cur, U = .slice (some ⟨g, 0, none⟩) l.length cap ∧ lo ≤ g ∧ w.heap[g]? = some (.cells cur 5 (0, 0)) ∧ l.length ≤ cap ∧ cap ≤ maxLen ∧ cur.size = cap * 1 ∧ cur.toList.take (l.length * 1) = Lib.byteCells l := by
      rcases h3.1.2 with ⟨_, hz⟩ | ⟨g, cap, cur, hv, r⟩
      · exact absurd hz hl0
      · exact ⟨g, cap, cur, hv, r⟩
    have c1 : w.drew.cell? ⟨b, 1, none⟩ = some (.slice (some ⟨g, 0, none⟩) l.length cap) := h1.facts.2.1
    have hSD : (Builtin.unsafeSliceData_ #[82] 118 #[.slice (some ⟨g, 0, none⟩) l.length cap]).run Tryd.prog w.drew = .ok (.pointer (some ⟨g, 0, none⟩)) w.drew := Lib.run_unsafeSliceData_row _ _ _ _ _ _ (by omega)
    have hUS : (Builtin.unsafeString_ #[118, 3] 9 #[.pointer (some ⟨g, 0, none⟩), .int .i64 l.length]).run Tryd.prog w.drew = .ok (.string ⟨l.toArray⟩) (w.drew.freeze ⟨g, 0, none⟩ l.length) := by
      have hg' : w.drew.heap[g]? = some (.cells cur 5 (0, 0)) := hg
      refine Lib.run_unsafeString_row w.drew 118 3 9 5 (by kernel_rfl) (by kernel_rfl) g cur.size (by simp [World.shape?, hg']) l h0 (by omega) (by unfold maxLen at hcm; omega) ?_
      intro j x hx
      have hadd : (⟨g, 0, none⟩ : Addr).add j = ⟨g, j, none⟩ := by unfold Addr.add; split <;> simp_all
      rw [hadd, cell_of_row w.drew g j cur 5 (0, 0) hg']
      have hj : j < l.length := by obtain ⟨hlt, _⟩ := List.getElem?_eq_some_iff.1 hx; exact hlt
      have h5 : (cur.toList.take (l.length * 1))[j]? = (Lib.byteCells l)[j]? := by rw [htake]
      rw [List.getElem?_take, if_pos (by omega)] at h5
      rw [← Array.getElem?_toList, h5]
      simp [Lib.byteCells, hx]
    clear h1 h3 htake
    go_enter Tryd.func55, Tryd.ntmps55
    go_wp2
    go_region
    all_goals (go_wp2; go_ret; exact ⟨rfl, Lib.below_freeze (Below.drew (Below.refl lo w)) (p := ⟨g, 0, none⟩) hbg _⟩)

set_option maxRecDepth 60000 in
set_option maxHeartbeats 1000000 in
theorem nameAt_any (lo : Nat) (w : World) (p : Option Addr) (c : Nat) (ns : List (List UInt8)) (i : Int) (h : Strs lo w p ns) (h0 : 0 ≤ i) (h1 : i < ns.length) :
    Calls Tryd.prog 83 #[.slice p ns.length c, .int .i64 i] w fun e w' => e = .returned (.string ⟨(ns.getD i.toNat []).toArray⟩) ∧ w' = w := by
  obtain ⟨j, rfl⟩ : ∃ j : Nat, i = (j : Int) := ⟨i.toNat, by omega⟩
  rw [Int.toNat_natCast]
  obtain ⟨b, o, rfl, _, hc⟩ := h.at (i := j) (by omega)
  obtain ⟨x, hx⟩ : ∃ x, ns.getD j [] = x := ⟨_, rfl⟩
  rw [hx] at hc ⊢
  clear hx h
  go_enter Tryd.func83, Tryd.ntmps83
  go_wp2_with fail
  go_ret
  exact ⟨rfl, rfl⟩

theorem Vs.cellW {r : Nat} {w : World} (h : Vs r w) (i : Nat) (hi : i < 18) : w.cell? ⟨0, i, none⟩ = some (.string ⟨(wordsT.getD i []).toArray⟩) := by
  obtain ⟨t, f, e⟩ := h.words
  have : wordsC[i]? = some (.string ⟨(wordsT.getD i []).toArray⟩) := by
    unfold wordsC
    rw [List.getElem?_toArray, List.getElem?_map]
    have h2 : i < wordsT.length := hi
    simp [List.getD_eq_getElem?_getD, List.getElem?_eq_getElem h2]
  simp [World.cell?, e, this]
theorem tab_words : ∀ i : Fin 18, i.val ≠ 2 → wordsT.getD i.val [] = wordL i.val := by decide
set_option maxRecDepth 60000 in
set_option maxHeartbeats 1000000 in
theorem wordOf_any (k : Int) (w : World) (r : Nat) (hv : Vs r w) (h1 : 0 ≤ k) (h2 : k ≤ 17) (h3 : k ≠ 2) :
    Calls Tryd.prog 99 #[.int .i64 k] w fun e w' => e = .returned (.string ⟨(wordL k.toNat).toArray⟩) ∧ w' = w := by
  obtain ⟨j, rfl⟩ : ∃ j : Nat, k = (j : Int) := ⟨k.toNat, by omega⟩
  rw [Int.toNat_natCast]
  have hc := hv.cellW j (by omega)
  rw [tab_words ⟨j, by omega⟩ (by show j ≠ 2; omega)] at hc
  simp only at hc
  obtain ⟨x, hx⟩ : ∃ x, wordL j = x := ⟨_, rfl⟩
  rw [hx] at hc ⊢
  clear hx hv
  go_enter Tryd.func99, Tryd.ntmps99
  go_wp2_with fail
  go_ret
  exact ⟨rfl, rfl⟩

set_option maxRecDepth 60000 in
set_option maxHeartbeats 1000000 in
theorem boundName_any (n : Nat) (w : World) (hn : n ≤ 1152921504606846976) :
    Calls Tryd.prog 109 #[.int .i64 (n : Int)] w fun e w' => e = .returned (.string ⟨(xname n).toArray⟩) ∧ w' = w := by
  have hm : n % 26 < 26 := Nat.mod_lt _ (by decide)
  have hX : ∀ i : Fin 26, ({ data := #[97, 98, 99, 100, 101, 102, 103, 104, 105, 106, 107, 108, 109, 110, 111, 112, 113, 114, 115, 116, 117, 118, 119, 120, 121, 122] } : ByteArray).extract i.val (i.val + 1) = ⟨#[UInt8.ofNat (97 + i.val)]⟩ := by decide
  have hXn : xname n = [120, UInt8.ofNat (97 + n % 26)] := rfl
  have hx1 := hX ⟨n % 26, hm⟩
  simp only at hx1
  obtain ⟨i, hi⟩ : ∃ i, n % 26 = i := ⟨_, rfl⟩
  have hi2 : (n : Int) % 26 = (i : Int) := by omega
  rw [hi] at hx1 hm
  rw [hXn, hi]
  obtain ⟨c, hc⟩ : ∃ c, UInt8.ofNat (97 + i) = c := ⟨_, rfl⟩
  rw [hc] at hx1 ⊢
  clear hc hX hXn hi
  go_enter Tryd.func109, Tryd.ntmps109
  go_wp2_with fail
  go_ret
  exact ⟨rfl, rfl⟩
end Go.Proofs.YtcgpjihfligdbaaDoor
