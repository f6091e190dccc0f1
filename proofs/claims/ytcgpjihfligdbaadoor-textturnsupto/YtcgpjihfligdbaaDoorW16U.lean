/-
  Appending a term to a list of terms, and names to a list of names.
-/
import Derived.Test.YtcgpjihfligdbaaDoorW7
import Derived.Test.YtcgpjihfligdbaaDoorMem5U
namespace Go.Proofs.YtcgpjihfligdbaaDoor
open Go.RowKit Tmx
set_option maxRecDepth 60000

theorem u50 : Tryd.prog.underlying 36 = some (.slice 9) := by kernel_rfl
theorem i9 : (Tryd.prog.info? 9).map (fun i => (i.zero, i.size, i.bytes)) = some (some (.string ⟨#[]⟩), 1, 16) := by kernel_rfl

/-- A step by an append whose run is known, in a region that draws. -/
theorem step_append_run {P : Program} {ops : Array Oper} {o : Oper} {a : Act} {K : Act → World → Prop} {Q : Exit → Act → World → Prop} {E : Prop} {w w' : World} (hgd : o.guard = none) (s x : Operand) (t : TypeId)
    (ho : o.op = .call { callee := .builtin .append, args := #[s, x], argTypes := #[t, t] }) (v1 v2 v' : Value) (hs : a.eval s = v1) (hx : a.eval x = v2)
    (hr : (Builtin.append_ #[t, t] o.type #[v1, v2]).run P w = .ok v' w') (h : K (a.put o.dst v') w') : if Region.wanted o (yielded ops a.tmps) = true then Oper.wp P o a w K Q else E := by
  have hw : Region.wanted o (yielded ops a.tmps) = true := by simp [Region.wanted, hgd]
  rw [if_pos hw]
  unfold Oper.wp execOp
  simp only [ho, resolve, invoke, builtin, Sem.run_bind, Sem.run_pure, Result.andThen_ok, List.map_toArray, List.map_cons, List.map_nil, hs, hx, hr]
  exact h
/-- The same in a plain region. -/
theorem wpList_append_run {P : Program} {ops : Array Oper} {rest : List Oper} {o : Oper} {a : Act} {Q : Exit → Act → World → Prop} {w w' : World} (hgd : o.guard = none) (s x : Operand) (t : TypeId)
    (ho : o.op = .call { callee := .builtin .append, args := #[s, x], argTypes := #[t, t] }) (v1 v2 v' : Value) (hs : a.eval s = v1) (hx : a.eval x = v2)
    (hr : (Builtin.append_ #[t, t] o.type #[v1, v2]).run P w = .ok v' w') (h : wpList P ops Q rest (a.put o.dst v') w') : wpList P ops Q (o :: rest) a w :=
  wpList_plain hgd fun _ hK => by
    unfold Oper.wp execOp
    simp only [ho, resolve, invoke, builtin, Sem.run_bind, Sem.run_pure, Result.andThen_ok, List.map_toArray, List.map_cons, List.map_nil, hs, hx, hr]
    exact hK _ _ h

/-- A term is appended. -/
theorem append_term (w : World) (lo : Nat) (v : Value) (A : F) (hA : ArgsIn lo w v A) (B c : Nat) (k n : Int) (p : Option Addr) (cp : Nat) (L : F) (hB : w.heap[B]? = some (.cells #[.int .i64 k, .int .i64 n, .slice p (len L) cp] 24 (0, 0)))
    (hL : SlQ (fun b => lo ≤ b ∧ v.ownBlock ≠ some b) w p L) (hlen : len A ≤ 1000000) (hlo : lo ≤ w.heap.size) (ty : TypeId) :
    ∃ g cap w', (Builtin.append_ #[22, 22] ty #[v, .slice (some ⟨B, 0, none⟩) 1 c]).run Tryd.prog w = .ok (.slice (some ⟨g, 0, none⟩) (len A + 1) cap) w' ∧
      ArgsIn lo w' (.slice (some ⟨g, 0, none⟩) (len A + 1) cap) (snoc A (k, n, L)) ∧ w.grownBy w' v.ownBlock ∧ (v.ownBlock = some g ∨ g = w.heap.size) ∧ g < w'.heap.size := by
  obtain ⟨i, hi, he⟩ := Option.map_eq_some_iff.1 i24
  simp only [Prod.mk.injEq] at he
  obtain ⟨hz, hs, hb⟩ := he
  obtain ⟨xs, h1, h2⟩ := hA
  obtain ⟨g, cap, w', hr, ho, hg, hat, hlt⟩ := run_append_lies (P := Tryd.prog) w 22 ty lo 24 i _ 3 40 u22 hi hz hs hb rfl (by decide) v (len A) xs h1 ⟨B, 0, none⟩ 1 c [.int .i64 k, .int .i64 n, .slice p (len L) cp] rfl
    (World.news_of_block hB) (by simp [Value.oneCell']) (by decide) (by simp only [maxLen]; omega) (by omega) hlo w.heap.size rfl
  refine ⟨g, cap, w', hr, ?_, hg, hat, hlt⟩
  have hc : ∀ b o u, (lo ≤ b ∧ v.ownBlock ≠ some b) → w.cell? ⟨b, o, none⟩ = some u → (lo ≤ b ∧ (Value.slice (some ⟨g, 0, none⟩) (len A + 1) cap).ownBlock ≠ some b) ∧ w'.cell? ⟨b, o, none⟩ = some u := by
    intro b o u hq hu
    have hbl : b < w.heap.size := World.block_lt_of_cell? w ⟨b, o, none⟩ hu
    refine ⟨⟨hq.1, ?_⟩, hg.cell hu (fun e => hq.2 e.symm)⟩
    intro e
    have : g = b := by simpa [Value.ownBlock] using e
    subst this
    rcases hat with h | h
    · exact hq.2 h
    · omega
  refine ⟨xs ++ [.int .i64 k, .int .i64 n, .slice p (len L) cp], by rw [len_snoc]; exact ho, ?_⟩
  exact Cells.snoc (hL.along hc) A xs (h2.along hc)

/-- The value v holds the names ns, in a row of one's own from the block lo on. -/
def NamesIn (lo : Nat) (w : World) (v : Value) (ns : List (List UInt8)) : Prop := w.ownsRow lo 9 1 v ns.length (ns.map fun l => .string ⟨l.toArray⟩)
theorem NamesIn.strs {lo r : Nat} {w : World} {p : Option Addr} {n cap : Nat} {ns : List (List UInt8)} (h : NamesIn lo w (.slice p n cap) ns) (hr : r < lo) : Strs r w p ns := by
  obtain ⟨g1, g2⟩ := h
  rcases g2 with ⟨e, h0⟩ | ⟨g, cap', cur, e, hg, hh, hn, hm, hs, ht⟩
  · have : ns = [] := List.eq_nil_of_length_eq_zero h0
    subst this
    exact Strs.nil _ _ _
  · have he : p = some ⟨g, 0, none⟩ := by simpa using (Value.slice.inj e).1
    subst he
    refine ⟨g, 0, fun _ => ⟨rfl, by omega⟩, fun i hi => ?_⟩
    rw [Nat.zero_add, cell_of_row w g i cur 9 (0, 0) hh]
    have : (cur.toList.take (ns.length * 1))[i]? = (ns.map fun l => Value.string ⟨l.toArray⟩)[i]? := by rw [ht]
    rw [List.getElem?_take, if_pos (by omega), List.getElem?_map] at this
    simpa [List.getD_eq_getElem?_getD, List.getElem?_eq_getElem hi] using this
theorem NamesIn.form {lo : Nat} {w : World} {v : Value} {ns : List (List UInt8)} (h : NamesIn lo w v ns) : ∃ p cap, v = .slice p ns.length cap := by
  obtain ⟨_, h2⟩ := h
  rcases h2 with ⟨rfl, h0⟩ | ⟨g, cap, cur, rfl, _⟩
  · exact ⟨none, 0, by rw [h0]⟩
  · exact ⟨_, _, rfl⟩
theorem NamesIn.along {lo : Nat} {w w' : World} {v : Value} {ns : List (List UInt8)} (h : NamesIn lo w v ns) (hb : ∀ b, lo ≤ b → b < w.heap.size → w'.heap[b]? = w.heap[b]?) : NamesIn lo w' v ns := by
  obtain ⟨g1, g2⟩ := h
  refine ⟨g1, ?_⟩
  rcases g2 with g2 | ⟨g, cap, cur, e, hg, hh, hr⟩
  · exact .inl g2
  · exact .inr ⟨g, cap, cur, e, hg, by rw [hb g hg (by obtain ⟨hlt, _⟩ := Array.getElem?_eq_some_iff.1 hh; exact hlt)]; exact hh, hr⟩

theorem NamesIn.cap0 {lo : Nat} {w : World} {p : Option Addr} {n cap : Nat} {ns : List (List UInt8)} (h : NamesIn lo w (.slice p n cap) ns) (hp : p = none) : cap = 0 := by
  obtain ⟨_, h2⟩ := h
  subst hp
  rcases h2 with ⟨e, _⟩ | ⟨g, cap', cur, e, _⟩
  · exact (Value.slice.inj e).2.2
  · exact absurd (Value.slice.inj e).1 (by simp)
/-- Blocks ahead of a row of one's own are as they were behind an append to it. -/
theorem grown_block {w w' : World} {lo n sz : Nat} {e : TypeId} {v : Value} {xs : List Value} (hN : w.ownsRow lo e sz v n xs) (hg : w.grownBy w' v.ownBlock) {b : Nat} (hb : b < lo) (hb2 : b < w.heap.size) : w'.heap[b]? = w.heap[b]? :=
  hg.block b hb2 fun h => by have := (hN.lt b h.symm).1; omega

/-- A name is appended. -/
theorem append_name (w : World) (lo : Nat) (v : Value) (ns : List (List UInt8)) (hA : NamesIn lo w v ns) (B c : Nat) (x : List UInt8) (hB : w.heap[B]? = some (.cells #[.string ⟨x.toArray⟩] 9 (0, 0))) (hlen : ns.length ≤ 4000000) (hlo : lo ≤ w.heap.size) (ty : TypeId) :
    ∃ v' w', (Builtin.append_ #[36, 36] ty #[v, .slice (some ⟨B, 0, none⟩) 1 c]).run Tryd.prog w = .ok v' w' ∧ NamesIn lo w' v' (ns ++ [x]) ∧ w.grownBy w' v.ownBlock := by
  obtain ⟨i, hi, he⟩ := Option.map_eq_some_iff.1 i9
  simp only [Prod.mk.injEq] at he
  obtain ⟨hz, hs, hb⟩ := he
  obtain ⟨v', w', hr, ho, hg, _⟩ := run_append_own (P := Tryd.prog) w lo 36 ty 9 i _ 1 16 u50 hi hz hs hb rfl (by decide) v ns.length _ hA ⟨B, 0, none⟩ 1 c [.string ⟨x.toArray⟩] rfl
    (World.news_of_block hB) (by simp [Value.oneCell']) (by simp only [maxLen]; omega) (by omega) hlo
  refine ⟨v', w', hr, ?_, hg⟩
  unfold NamesIn
  rw [List.length_append, List.map_append]
  exact ho

/-- Names are copied. -/
theorem copy_names (w : World) (lo r B : Nat) (p : Option Addr) (c : Nat) (ns : List (List UInt8)) (hB : w.heap[B]? = some (.cells #[] 9 (0, 0))) (hlB : lo ≤ B) (hS : Strs r w p ns) (hp : p = none → c = 0) (hlen : ns.length ≤ 1000000) (hlo : lo ≤ w.heap.size) (ty : TypeId) :
    ∃ v' w', (Builtin.append_ #[36, 36] ty #[.slice (some ⟨B, 0, none⟩) 0 0, .slice p ns.length c]).run Tryd.prog w = .ok v' w' ∧ NamesIn lo w' v' ns ∧ w.grownBy w' (some B) := by
  obtain ⟨i, hi, he⟩ := Option.map_eq_some_iff.1 i9
  simp only [Prod.mk.injEq] at he
  obtain ⟨hz, hs, hb⟩ := he
  have hown : w.ownsRow lo 9 1 (.slice (some ⟨B, 0, none⟩) 0 0) 0 [] := ⟨rfl, .inr ⟨B, 0, #[], rfl, hlB, hB, Nat.le_refl _, Nat.zero_le _, rfl, rfl⟩⟩
  cases p with
  | none =>
    have h0 : ns = [] := by
      obtain ⟨b, o, h1, _⟩ := hS
      cases ns with
      | nil => rfl
      | cons x ns => exact absurd (h1 (by simp)).1 (by simp)
    subst h0
    rw [hp rfl]
    exact ⟨_, _, run_append_owned_none (P := Tryd.prog) w lo 36 ty 9 i 1 u50 hi _ 0 [] hown, hown, ⟨rfl, rfl, rfl, Nat.le_refl _, fun _ _ _ => rfl⟩⟩
  | some a =>
    have hnews : ∀ j u, (ns.map fun l => Value.string ⟨l.toArray⟩)[j]? = some u → w.cell? (a.add j) = some u := by
      intro j u hu
      obtain ⟨b, o, h1, h2⟩ := hS
      have hj : j < ns.length := by
        obtain ⟨hlt, _⟩ := List.getElem?_eq_some_iff.1 hu
        simpa using hlt
      have ha : a = ⟨b, o, none⟩ := by simpa using (h1 (by omega)).1
      subst ha
      have hadd : (⟨b, o, none⟩ : Addr).add j = ⟨b, o + j, none⟩ := by unfold Addr.add; split <;> simp_all
      rw [hadd, h2 j hj]
      rw [List.getElem?_map, List.getElem?_eq_getElem hj] at hu
      simpa [List.getD_eq_getElem?_getD, List.getElem?_eq_getElem hj] using hu
    obtain ⟨v', w', hr, ho, hg, _⟩ := run_append_own (P := Tryd.prog) w lo 36 ty 9 i _ 1 16 u50 hi hz hs hb rfl (by decide) (.slice (some ⟨B, 0, none⟩) 0 0) 0 [] hown a ns.length c (ns.map fun l => Value.string ⟨l.toArray⟩) (by simp)
      hnews (by simp [Value.oneCell']) (by simp only [maxLen]; omega) (by omega) hlo
    refine ⟨v', w', hr, ?_, hg⟩
    simpa [NamesIn] using ho
/-- What is there behind a term that is read, and behind its being appended: bt: the box of the term that is built; I: what stays besides. -/
theorem step26 {W w10 : World} {r T lo : Nat} {kd : Value} {pv p5 : Option Addr} {cv c5 : Nat} {A : F} {x : Int × Int × F} (_hT : T < W.heap.size) (hTr : T ≠ r ∧ T < lo ∧ r < lo) (bt : Box W T kd (.int .i64 0) (.slice pv (len A) cv)) (hA : ArgsIn lo W (.slice pv (len A) cv) A)
    (hown : ∀ k, (Value.slice pv (len A) cv).ownBlock = some k → lo ≤ k ∧ k < W.heap.size) (hsl : SlF W.drew.heap.size w10 p5 x.2.2) (hk : Kept r W.drew w10) (hlen : len A ≤ 4) (hlo : lo ≤ W.heap.size) :
    Box w10 T kd (.int .i64 0) (.slice pv (len A) cv) ∧
    ∃ g6 cap6 w11, (Builtin.append_ #[22, 22] 22 #[.slice pv (len A) cv, .slice (some ⟨w10.heap.size, 0, none⟩) 1 1]).run Tryd.prog (w10.alloc (.cells #[.int .i64 x.1, .int .i64 x.2.1, .slice p5 (len x.2.2) c5] 24)) = .ok (.slice (some ⟨g6, 0, none⟩) (len A + 1) cap6) w11 ∧
      ArgsIn lo w11 (.slice (some ⟨g6, 0, none⟩) (len A + 1) cap6) (snoc A x) ∧ (∀ b, b < lo → w11.heap[b]? = w10.heap[b]?) ∧ (∀ w0, Kept r w0 W → w0.heap.size ≤ lo → Kept r w0 w11) ∧ lo ≤ w11.heap.size := by
  have hz := hk.size
  have hz' : W.heap.size ≤ w10.heap.size := hz
  have bt10 : Box w10 T kd (.int .i64 0) (.slice pv (len A) cv) := hk.box (w := W.drew) hTr.1 (bt.of_block rfl)
  have hA10 : ArgsIn lo w10 (.slice pv (len A) cv) A := hA.along fun b hb hb2 => hk.block b hb2 (by omega)
  have hA11 : ArgsIn lo (w10.alloc (.cells #[.int .i64 x.1, .int .i64 x.2.1, .slice p5 (len x.2.2) c5] 24)) (.slice pv (len A) cv) A := hA10.along fun b _ hb2 => Below.heap_alloc _ _ _ hb2
  have hL : SlQ (fun b => lo ≤ b ∧ (Value.slice pv (len A) cv).ownBlock ≠ some b) (w10.alloc (.cells #[.int .i64 x.1, .int .i64 x.2.1, .slice p5 (len x.2.2) c5] 24)) p5 x.2.2 := by
    refine hsl.toQ.along fun b o v hb hv => ?_
    have h1 : W.heap.size ≤ b := hb
    have h2 : lo ≤ b := by omega
    refine ⟨⟨h2, fun he => ?_⟩, ?_⟩
    · have h3 := (hown b he).2
      omega
    · rw [World.cell?_of_block (w := w10) (Below.heap_alloc _ _ _ (World.block_lt_of_cell? w10 ⟨b, o, none⟩ hv))]
      exact hv
  obtain ⟨g6, cap6, w11, hr, hA6, hg, hat, hlt⟩ := append_term _ lo (.slice pv (len A) cv) A hA11 w10.heap.size 1 x.1 x.2.1 p5 c5 x.2.2 (heap_alloc_new _ _) hL (by omega) (by simp; omega) 22
  obtain ⟨xs, ho, _⟩ := hA11
  have hbk : ∀ b, b < lo → w11.heap[b]? = w10.heap[b]? := fun b hb => by
    rw [grown_block ho hg hb (by simp; omega)]
    exact Below.heap_alloc _ _ _ (by omega)
  have hz11 : w10.heap.size + 1 ≤ w11.heap.size := by have := hg.size; simp at this; omega
  refine ⟨bt10, g6, cap6, w11, hr, hA6, hbk, fun w0 h0 hw0 => ?_, by omega⟩
  have h1 := h0.size
  refine ⟨(hg.os.trans hk.os).trans h0.os, (hg.tape.trans hk.tape).trans h0.tape, (hg.output.trans hk.output).trans h0.output, by omega, fun b hb hbr => ?_⟩
  rw [hbk b (by omega), hk.block b (by show b < W.heap.size; omega) hbr]
  exact h0.block b hb hbr
end Go.Proofs.YtcgpjihfligdbaaDoor
