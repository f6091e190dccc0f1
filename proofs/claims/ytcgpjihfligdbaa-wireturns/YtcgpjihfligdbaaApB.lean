/-
  Appending bytes to a list of bytes of one's own, and a term to a list of terms.
-/
import Derived.Test.YtcgpjihfligdbaaProg
import Derived.Test.YtcgpjihfligdbaaMemB
import Derived.WalkKit
import Derived.WalkSpells
import Derived.WalkLawsBesides
namespace Go.Proofs.Ytcgpjihfligdbaa
open Go.RowKit Tmx

theorem u39 : Try.prog.underlying 39 = some (.slice 5) := by kernel_rfl
theorem u5 : Try.prog.underlying 5 = some (.int .u8) := by kernel_rfl
theorem u9 : Try.prog.underlying 9 = some .string := by kernel_rfl
theorem i5 : (Try.prog.info? 5).map (fun i => (i.zero, i.size, i.bytes)) = some (some (.int .u8 0), 1, 1) := by kernel_rfl

/-- A step by an append whose run is known, in a region that draws. -/
theorem step_append_run {P : Program} {ops : Array Oper} {o : Oper} {a : Act} {K : Act → World → Prop} {Q : Exit → Act → World → Prop} {E : Prop} {w w' : World} (hgd : o.guard = none) (s x : Operand) (t t' : TypeId)
    (ho : o.op = .call { callee := .builtin .append, args := #[s, x], argTypes := #[t, t'] }) (v1 v2 v' : Value) (hs : a.eval s = v1) (hx : a.eval x = v2)
    (hr : (Builtin.append_ #[t, t'] o.type #[v1, v2]).run P w = .ok v' w') (h : K (a.put o.dst v') w') : if Region.wanted o (yielded ops a.tmps) = true then Oper.wp P o a w K Q else E := by
  have hw : Region.wanted o (yielded ops a.tmps) = true := by simp [Region.wanted, hgd]
  rw [if_pos hw]
  unfold Oper.wp execOp
  simp only [ho, resolve, invoke, builtin, Sem.run_bind, Sem.run_pure, Result.andThen_ok, List.map_toArray, List.map_cons, List.map_nil, hs, hx, hr]
  exact h
/-- The same in a plain region. -/
theorem wpList_append_run {P : Program} {ops : Array Oper} {rest : List Oper} {o : Oper} {a : Act} {Q : Exit → Act → World → Prop} {w w' : World} (hgd : o.guard = none) (s x : Operand) (t t' : TypeId)
    (ho : o.op = .call { callee := .builtin .append, args := #[s, x], argTypes := #[t, t'] }) (v1 v2 v' : Value) (hs : a.eval s = v1) (hx : a.eval x = v2)
    (hr : (Builtin.append_ #[t, t'] o.type #[v1, v2]).run P w = .ok v' w') (h : wpList P ops Q rest (a.put o.dst v') w') : wpList P ops Q (o :: rest) a w :=
  wpList_plain hgd fun _ hK => by
    unfold Oper.wp execOp
    simp only [ho, resolve, invoke, builtin, Sem.run_bind, Sem.run_pure, Result.andThen_ok, List.map_toArray, List.map_cons, List.map_nil, hs, hx, hr]
    exact hK _ _ h

/-- Bytes that lie somewhere are appended. -/
theorem append_bytes (w : World) (lo : Nat) (v : Value) (l : List UInt8) (hA : BytesIn lo w v l) (p : Option Addr) (c : Nat) (m : List UInt8) (hB : Bs w p m) (hp : p = none → c = 0) (hlen : l.length + m.length ≤ 140737488355328) (hlo : lo ≤ w.heap.size) (ty : TypeId) :
    ∃ v' w', (Builtin.append_ #[39, 39] ty #[v, .slice p m.length c]).run Try.prog w = .ok v' w' ∧ BytesIn lo w' v' (l ++ m) ∧ w.grownBy w' v.ownBlock ∧ Below lo w w' := by
  obtain ⟨i, hi, he⟩ := Option.map_eq_some_iff.1 i5
  simp only [Prod.mk.injEq] at he
  obtain ⟨hz, hs, hb⟩ := he
  cases p with
  | none =>
    obtain rfl : m = [] := by
      obtain ⟨b, o, h1, _⟩ := hB
      cases m with
      | nil => rfl
      | cons x m => exact absurd (h1 (by simp)) (by simp)
    rw [hp rfl]
    refine ⟨_, _, run_append_owned_none (P := Try.prog) w lo 39 ty 5 i 1 u39 hi _ _ _ hA, by simpa using hA, ⟨rfl, rfl, rfl, Nat.le_refl _, fun _ _ _ => rfl⟩, Below.refl _ _⟩
  | some a =>
    have hnews : ∀ j u, (m.map bv)[j]? = some u → w.cell? (a.add j) = some u := by
      intro j u hu
      obtain ⟨b, o, h1, h2⟩ := hB
      have hj : j < m.length := by
        obtain ⟨hlt, _⟩ := List.getElem?_eq_some_iff.1 hu
        simpa using hlt
      have ha : a = ⟨b, o, none⟩ := by simpa using h1 (by omega)
      subst ha
      have hadd : (⟨b, o, none⟩ : Addr).add j = ⟨b, o + j, none⟩ := by unfold Addr.add; split <;> simp_all
      rw [hadd, h2 j hj]
      rw [List.getElem?_map, List.getElem?_eq_getElem hj] at hu
      simpa using hu
    obtain ⟨v', w', hr, ho, hg, _⟩ := run_append_own (P := Try.prog) w lo 39 ty 5 i _ 1 1 u39 hi hz hs hb rfl (by decide) v l.length _ hA a m.length c (m.map bv) (by simp)
      hnews (by simp [Value.oneCell', bv]) (by simp only [maxLen]; omega) (by omega) hlo
    refine ⟨v', w', hr, ?_, hg, grown_below hA hg hlo⟩
    unfold BytesIn
    rw [List.length_append, List.map_append]
    exact ho
/-- One byte, laid in a block of its own, is appended. -/
theorem append_byte (w : World) (lo : Nat) (v : Value) (l : List UInt8) (hA : BytesIn lo w v l) (B : Nat) (x : UInt8) (hB : w.heap[B]? = some (.cells #[.int .u8 (x.toNat : Int)] 5 (0, 0))) (hlen : l.length ≤ 140737488355000) (hlo : lo ≤ w.heap.size) (ty : TypeId) :
    ∃ v' w', (Builtin.append_ #[39, 39] ty #[v, .slice (some ⟨B, 0, none⟩) 1 1]).run Try.prog w = .ok v' w' ∧ BytesIn lo w' v' (l ++ [x]) ∧ w.grownBy w' v.ownBlock ∧ Below lo w w' := by
  have := append_bytes w lo v l hA (some ⟨B, 0, none⟩) 1 [x] (Bs.some fun i hi => by
    have : i = 0 := by simp at hi; omega
    subst this
    rw [cell_of_row w B (0 + 0) _ 5 (0, 0) hB]
    rfl) (fun h => by simp at h) (by simp; omega) hlo ty
  simpa using this

/-- A string's bytes are appended to a list of bytes that was laid last. -/
theorem append_string (w : World) (lo B : Nat) (x : UInt8) (s : List UInt8) (hB : w.heap[B]? = some (.cells #[.int .u8 (x.toNat : Int)] 5 (0, 0))) (hlB : lo ≤ B) (hlen : s.length ≤ 1000000) (hlo : lo ≤ w.heap.size) (ty : TypeId) :
    ∃ v' w', (Builtin.append_ #[39, 9] ty #[.slice (some ⟨B, 0, none⟩) 1 1, .string ⟨s.toArray⟩]).run Try.prog w = .ok v' w' ∧ BytesIn lo w' v' (x :: s) ∧ Below lo w w' := by
  obtain ⟨i, hi, he⟩ := Option.map_eq_some_iff.1 i5
  simp only [Prod.mk.injEq] at he
  obtain ⟨hz, hs, hb⟩ := he
  have hsrc := Src.ofString (P := Try.prog) w u9 ⟨s.toArray⟩
  have hbc : byteCells ⟨s.toArray⟩ = s.map bv := by simp [byteCells, bv]
  have hsz : (⟨s.toArray⟩ : ByteArray).size = s.length := by simp [ByteArray.size]
  rw [hbc, hsz] at hsrc
  have hown : BytesIn lo w (.slice (some ⟨B, 0, none⟩) 1 1) [x] := ⟨rfl, .inr ⟨B, 1, _, rfl, hlB, hB, Nat.le_refl _, by decide, rfl, rfl⟩⟩
  by_cases h0 : s.length = 0
  · obtain rfl : s = [] := List.eq_nil_of_length_eq_zero h0
    have hr := run_append_room_src (P := Try.prog) w 39 9 ty 5 i u39 hi B 0 1 1 _ 0 [] (by rw [hs]; exact hsrc) (by omega) (by simp) (by simp)
    refine ⟨_, _, hr, ?_, ?_⟩
    · simpa [World.setCells] using hown
    · simpa [World.setCells] using Below.refl lo w
  · have hold : (Builtin.firstCells i.size 1 (.slice (some ⟨B, 0, none⟩) 1 1)).run Try.prog w.drew = .ok ([bv x] : List Value).toArray w.drew :=
      run_firstCells_some w.drew i.size 1 ⟨B, 0, none⟩ 1 1 [bv x] (by rw [hs]; rfl) (World.news_of_block (w := w.drew) hB)
    have hfit : Builtin.nextslicecap (1 + s.length) 1 * i.bytes ≤ 281474976710656 := by
      rw [hb]
      unfold Builtin.nextslicecap
      repeat' split
      all_goals omega
    have hr := run_append_grow_src (P := Try.prog) w 39 9 ty 5 i _ u39 hi hz (some ⟨B, 0, none⟩) 1 1 _ hold _ s.length (s.map bv) (by rw [hs]; exact hsrc) (by omega) (by omega) hfit
    have hge := grownCap_ge w (1 + s.length) 1 5
    refine ⟨_, _, hr, ⟨by simp, .inr ⟨w.heap.size, grownCap w (1 + s.length) 1 5, _, ?_, hlo, heap_alloc_new w.drew _, by simp; omega, grownCap_le_maxLen w _ _ _ (by simp only [maxLen]; omega), ?_, ?_⟩⟩, ?_⟩
    · rw [List.length_cons, Nat.add_comm]
    · simp [size_zeroCells, Value.cells]
      omega
    · simp
    · exact ⟨rfl, rfl, rfl, by simp, fun k hk => heap_alloc_old w.drew _ (show k < w.heap.size by omega)⟩
end Go.Proofs.Ytcgpjihfligdbaa
