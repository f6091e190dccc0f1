/-
  A list of terms that is appended to.
-/
/-
  Appending a term to a list of terms, and names to a list of names.
-/
/-
  A text's words, and the document's reader over words.
-/
import Derived.Test.YthfjmcomhccbaaaGreatDoorPlain2m
import Derived.Deep.AppendLies
import Derived.Test.YthfjmcomhccbaaaGreatDoorMem2m
namespace Tmx
open Go Go.Deep Go.RowKit

/-- The terms f lie in w from the cell o of the block b on, all in blocks of which Q holds. -/
def RowQ (Q : Nat → Prop) (w : World) (b o : Nat) : F → Prop
  | .nil => True
  | .node _ _ a l r =>
    Q b ∧ w.cell? ⟨b, o, none⟩ = some (.int .i64 a.1) ∧ w.cell? ⟨b, o + 1, none⟩ = some (.int .i64 a.2) ∧
    (∃ p b' o', ∃ (cap : {c : Nat // len l ≤ c}), w.cell? ⟨b, o + 2, none⟩ = some (.slice p (len l) cap) ∧ (0 < len l → p = some ⟨b', o', none⟩) ∧ RowQ Q w b' o' l) ∧
    RowQ Q w b (o + 3) r
def SlQ (Q : Nat → Prop) (w : World) (p : Option Addr) (f : F) : Prop := ∃ b o, (0 < len f → p = some ⟨b, o, none⟩) ∧ RowQ Q w b o f

/-- From one world, and one property, to others. -/
theorem RowQ.along {Q Q' : Nat → Prop} {w w' : World} (h : ∀ b o v, Q b → w.cell? ⟨b, o, none⟩ = some v → Q' b ∧ w'.cell? ⟨b, o, none⟩ = some v) : ∀ (f : F) (b o : Nat), RowQ Q w b o f → RowQ Q' w' b o f
  | .nil, _, _, _ => trivial
  | .node _ _ a l r, b, o, hr => by
    obtain ⟨h0, h1, h2, ⟨p, b', o', cap, h3, h4, h6⟩, h5⟩ := hr
    exact ⟨(h _ _ _ h0 h1).1, (h _ _ _ h0 h1).2, (h _ _ _ h0 h2).2, ⟨p, b', o', cap, (h _ _ _ h0 h3).2, h4, RowQ.along h l b' o' h6⟩, RowQ.along h r b (o + 3) h5⟩
theorem SlQ.along {Q Q' : Nat → Prop} {w w' : World} (h : ∀ b o v, Q b → w.cell? ⟨b, o, none⟩ = some v → Q' b ∧ w'.cell? ⟨b, o, none⟩ = some v) {p : Option Addr} {f : F} (hs : SlQ Q w p f) : SlQ Q' w' p f :=
  let ⟨b, o, h1, h2⟩ := hs
  ⟨b, o, h1, h2.along h⟩
/-- The cells xs are those of the terms f, one behind the other. -/
def Cells (Q : Nat → Prop) (w : World) : F → List Value → Prop
  | .nil, xs => xs = []
  | .node _ _ a l r, xs => ∃ p, ∃ (cap : {c : Nat // len l ≤ c}), ∃ ys, xs = .int .i64 a.1 :: .int .i64 a.2 :: .slice p (len l) cap :: ys ∧ SlQ Q w p l ∧ Cells Q w r ys
theorem Cells.along {Q Q' : Nat → Prop} {w w' : World} (h : ∀ b o v, Q b → w.cell? ⟨b, o, none⟩ = some v → Q' b ∧ w'.cell? ⟨b, o, none⟩ = some v) : ∀ (f : F) (xs : List Value), Cells Q w f xs → Cells Q' w' f xs
  | .nil, _, hc => hc
  | .node _ _ a l r, xs, hc => by
    obtain ⟨p, cap, ys, rfl, h1, h2⟩ := hc
    exact ⟨p, cap, ys, rfl, h1.along h, Cells.along h r ys h2⟩
theorem Cells.snoc {Q : Nat → Prop} {w : World} {k n : Int} {p : Option Addr} {cap : Nat} {L : F} (hcap : len L ≤ cap) (hL : SlQ Q w p L) : ∀ (f : F) (xs : List Value), Cells Q w f xs → Cells Q w (snoc f (k, n, L)) (xs ++ [.int .i64 k, .int .i64 n, .slice p (len L) cap])
  | .nil, xs, hc => by
    simp only [Cells] at hc
    subst hc
    exact ⟨p, ⟨cap, hcap⟩, [], rfl, hL, rfl⟩
  | .node _ _ a l r, xs, hc => by
    obtain ⟨p', cap', ys, rfl, h1, h2⟩ := hc
    exact ⟨p', cap', ys ++ [.int .i64 k, .int .i64 n, .slice p (len L) cap], by simp, h1, Cells.snoc hcap hL r ys h2⟩
theorem Cells.length {Q : Nat → Prop} {w : World} : ∀ (f : F) (xs : List Value), Cells Q w f xs → xs.length = len f * 3
  | .nil, xs, hc => by simp only [Cells] at hc; subst hc; simp [len]
  | .node _ _ a l r, xs, hc => by
    obtain ⟨p', cap', ys, rfl, h1, h2⟩ := hc
    have := Cells.length r ys h2
    simp [len]
    omega
/-- Cells that lie in a block are a row. -/
theorem Cells.row {Q : Nat → Prop} {w : World} {g : Nat} (hg : Q g) : ∀ (f : F) (xs : List Value) (o : Nat), Cells Q w f xs → (∀ i, i < xs.length → w.cell? ⟨g, o + i, none⟩ = xs[i]?) → RowQ Q w g o f
  | .nil, _, _, _, _ => trivial
  | .node _ _ a l r, xs, o, hc, hx => by
    obtain ⟨p, cap, ys, rfl, ⟨b', o', h1, h2⟩, h3⟩ := hc
    refine ⟨hg, by simpa using hx 0 (by simp), by simpa using hx 1 (by simp), ⟨p, b', o', cap, by simpa using hx 2 (by simp), h1, h2⟩, Cells.row hg r ys (o + 3) h3 fun i hi => ?_⟩
    have := hx (i + 3) (by simp; omega)
    rw [show o + 3 + i = o + (i + 3) by omega, this]
    simp

/-- The value v holds the terms A, in a row of one's own from the block lo on; what they hold lies elsewhere, from lo on. -/
def ArgsIn (lo : Nat) (w : World) (v : Value) (A : F) : Prop := ∃ xs, w.ownsRow lo 30 3 v (len A) xs ∧ Cells (fun b => lo ≤ b ∧ v.ownBlock ≠ some b) w A xs
theorem ArgsIn.nil (lo : Nat) (w : World) : ArgsIn lo w (.slice none 0 0) .nil := ⟨[], World.ownsRow_nil w lo 30 3, rfl⟩

/-- The same in a later world in which blocks from lo on are as they were. -/
theorem ArgsIn.along {lo : Nat} {w w' : World} {v : Value} {A : F} (h : ArgsIn lo w v A) (hb : ∀ b, lo ≤ b → b < w.heap.size → w'.heap[b]? = w.heap[b]?) : ArgsIn lo w' v A := by
  obtain ⟨xs, h1, h2⟩ := h
  refine ⟨xs, ?_, h2.along fun b o u hq hc => ⟨hq, ?_⟩⟩
  · obtain ⟨g1, g2⟩ := h1
    refine ⟨g1, ?_⟩
    rcases g2 with g2 | ⟨g, cap, cur, e, hg, hh, hr⟩
    · exact .inl g2
    · exact .inr ⟨g, cap, cur, e, hg, by rw [hb g hg (by obtain ⟨hlt, _⟩ := Array.getElem?_eq_some_iff.1 hh; exact hlt)]; exact hh, hr⟩
  · rw [World.cell?_of_block (w := w) (hb b hq.1 (World.block_lt_of_cell? w ⟨b, o, none⟩ hc))]
    exact hc
/-- What it looks like. -/
theorem ArgsIn.form {lo : Nat} {w : World} {v : Value} {A : F} (h : ArgsIn lo w v A) : ∃ p cap, v = .slice p (len A) cap := by
  obtain ⟨xs, ⟨_, h2⟩, _⟩ := h
  rcases h2 with ⟨rfl, h0⟩ | ⟨g, cap, cur, rfl, _⟩
  · exact ⟨none, 0, by rw [h0]⟩
  · exact ⟨_, _, rfl⟩
end Tmx

namespace Go.Proofs.YthfjmcomhccbaaaGreatDoor
open Go.RowKit Tmx
set_option maxRecDepth 60000

theorem u50 : Tryz.prog.underlying 102 = some (.slice 9) := by kernel_rfl
theorem i9 : (Tryz.prog.info? 9).map (fun i => (i.zero, i.size, i.bytes)) = some (some (.string ⟨#[]⟩), 1, 16) := by kernel_rfl

/-- A step by an append whose run is known, in a region that draws. -/
theorem step_append_run {P : Program} {ops : Array Oper} {o : Oper} {a : Act} {K : Act → World → Prop} {Q : Exit → Act → World → Prop} {E : Prop} {w w' : World} (hgd : o.guard = none) (s x : Operand) (t : TypeId)
    (ho : o.op = .call { callee := .builtin .append, args := #[s, x], argTypes := #[t, t] }) (v1 v2 v' : Value) (hs : a.eval s = v1) (hx : a.eval x = v2)
    (hr : (Builtin.append_ #[t, t] o.type #[v1, v2]).run P w = .ok v' w') (h : K (a.put o.dst v') w') : if Region.wanted o (yielded ops a.tmps) = true then Oper.wp P o a w K Q else E := by
  have hw : Region.wanted o (yielded ops a.tmps) = true := by simp [Region.wanted, hgd]
  rw [if_pos hw]
  unfold Oper.wp execOp
  simp only [ho, resolve, invoke, builtin, Sem.run_bind, Sem.run_pure, Result.andThen_ok, List.map_toArray, List.map_cons, List.map_nil, hs, hx, hr]
  exact h
/-- The same in a plain region. -/
theorem wpList_append_run {P : Program} {ops : Array Oper} {rest : List Oper} {o : Oper} {a : Act} {Q : Exit → Act → World → Prop} {w w' : World} (hgd : o.guard = none) (s x : Operand) (t : TypeId)
    (ho : o.op = .call { callee := .builtin .append, args := #[s, x], argTypes := #[t, t] }) (v1 v2 v' : Value) (hs : a.eval s = v1) (hx : a.eval x = v2)
    (hr : (Builtin.append_ #[t, t] o.type #[v1, v2]).run P w = .ok v' w') (h : wpList P ops Q rest (a.put o.dst v') w') : wpList P ops Q (o :: rest) a w :=
  wpList_plain hgd fun _ hK => by
    unfold Oper.wp execOp
    simp only [ho, resolve, invoke, builtin, Sem.run_bind, Sem.run_pure, Result.andThen_ok, List.map_toArray, List.map_cons, List.map_nil, hs, hx, hr]
    exact hK _ _ h

theorem u22 : Tryz.prog.underlying 28 = some (.slice 30) := by kernel_rfl
theorem i24 : (Tryz.prog.info? 30).map (fun i => (i.zero, i.size, i.bytes)) = some (some (.agg #[.int .i64 0, .int .i64 0, .slice none 0 0]), 3, 40) := by kernel_rfl

/-- The value v holds the names ns, in a row of one's own from the block lo on. -/
def NamesIn (lo : Nat) (w : World) (v : Value) (ns : List (List UInt8)) : Prop := w.ownsRow lo 9 1 v ns.length (ns.map fun l => .string ⟨l.toArray⟩)
theorem NamesIn.strs {lo r : Nat} {w : World} {p : Option Addr} {n cap : Nat} {ns : List (List UInt8)} (h : NamesIn lo w (.slice p n cap) ns) (hr : r < lo) : Strs r w p ns := by
  obtain ⟨g1, g2⟩ := h
  rcases g2 with ⟨e, h0⟩ | ⟨g, cap', cur, e, hg, hh, hn, hm, hs, ht⟩
  · have : ns = [] := List.eq_nil_of_length_eq_zero h0
    subst this
    exact Strs.nil _ _ _
  · have he : p = some ⟨g, 0, none⟩ := by simpa using (Value.slice.inj e).1
    subst he
    refine ⟨g, 0, fun _ => ⟨rfl, by omega⟩, fun i hi => ?_⟩
    rw [Nat.zero_add, cell_of_row w g i cur 9 (0, 0) hh]
    have : (cur.toList.take (ns.length * 1))[i]? = (ns.map fun l => Value.string ⟨l.toArray⟩)[i]? := by rw [ht]
    rw [List.getElem?_take, if_pos (by omega), List.getElem?_map] at this
    simpa [List.getD_eq_getElem?_getD, List.getElem?_eq_getElem hi] using this
theorem NamesIn.form {lo : Nat} {w : World} {v : Value} {ns : List (List UInt8)} (h : NamesIn lo w v ns) : ∃ p cap, v = .slice p ns.length cap := by
  obtain ⟨_, h2⟩ := h
  rcases h2 with ⟨rfl, h0⟩ | ⟨g, cap, cur, rfl, _⟩
  · exact ⟨none, 0, by rw [h0]⟩
  · exact ⟨_, _, rfl⟩
theorem NamesIn.along {lo : Nat} {w w' : World} {v : Value} {ns : List (List UInt8)} (h : NamesIn lo w v ns) (hb : ∀ b, lo ≤ b → b < w.heap.size → w'.heap[b]? = w.heap[b]?) : NamesIn lo w' v ns := by
  obtain ⟨g1, g2⟩ := h
  refine ⟨g1, ?_⟩
  rcases g2 with g2 | ⟨g, cap, cur, e, hg, hh, hr⟩
  · exact .inl g2
  · exact .inr ⟨g, cap, cur, e, hg, by rw [hb g hg (by obtain ⟨hlt, _⟩ := Array.getElem?_eq_some_iff.1 hh; exact hlt)]; exact hh, hr⟩

theorem NamesIn.cap0 {lo : Nat} {w : World} {p : Option Addr} {n cap : Nat} {ns : List (List UInt8)} (h : NamesIn lo w (.slice p n cap) ns) (hp : p = none) : cap = 0 := by
  obtain ⟨_, h2⟩ := h
  subst hp
  rcases h2 with ⟨e, _⟩ | ⟨g, cap', cur, e, _⟩
  · exact (Value.slice.inj e).2.2
  · exact absurd (Value.slice.inj e).1 (by simp)
/-- Blocks ahead of a row of one's own are as they were behind an append to it. -/
theorem grown_block {w w' : World} {lo n sz : Nat} {e : TypeId} {v : Value} {xs : List Value} (hN : w.ownsRow lo e sz v n xs) (hg : w.grownBy w' v.ownBlock) {b : Nat} (hb : b < lo) (hb2 : b < w.heap.size) : w'.heap[b]? = w.heap[b]? :=
  hg.block b hb2 fun h => by have := (hN.lt b h.symm).1; omega

/-- A name is appended. -/
theorem append_name (w : World) (lo : Nat) (v : Value) (ns : List (List UInt8)) (hA : NamesIn lo w v ns) (B c : Nat) (x : List UInt8) (hB : w.heap[B]? = some (.cells #[.string ⟨x.toArray⟩] 9 (0, 0))) (hlen : ns.length ≤ 4000000) (hlo : lo ≤ w.heap.size) (ty : TypeId) :
    ∃ v' w', (Builtin.append_ #[102, 102] ty #[v, .slice (some ⟨B, 0, none⟩) 1 c]).run Tryz.prog w = .ok v' w' ∧ NamesIn lo w' v' (ns ++ [x]) ∧ w.grownBy w' v.ownBlock := by
  obtain ⟨i, hi, he⟩ := Option.map_eq_some_iff.1 i9
  simp only [Prod.mk.injEq] at he
  obtain ⟨hz, hs, hb⟩ := he
  obtain ⟨v', w', hr, ho, hg, _⟩ := run_append_own (P := Tryz.prog) w lo 102 ty 9 i _ 1 16 u50 hi hz hs hb rfl (by decide) v ns.length _ hA ⟨B, 0, none⟩ 1 c [.string ⟨x.toArray⟩] rfl
    (World.news_of_block hB) (by simp [Value.oneCell']) (by simp only [maxLen]; omega) (by omega) hlo
  refine ⟨v', w', hr, ?_, hg⟩
  unfold NamesIn
  rw [List.length_append, List.map_append]
  exact ho

/-- Names are copied. -/
theorem copy_names (w : World) (lo r B : Nat) (p : Option Addr) (c : Nat) (ns : List (List UInt8)) (hB : w.heap[B]? = some (.cells #[] 9 (0, 0))) (hlB : lo ≤ B) (hS : Strs r w p ns) (hp : p = none → c = 0) (hlen : ns.length ≤ 1000000) (hlo : lo ≤ w.heap.size) (ty : TypeId) :
    ∃ v' w', (Builtin.append_ #[102, 102] ty #[.slice (some ⟨B, 0, none⟩) 0 0, .slice p ns.length c]).run Tryz.prog w = .ok v' w' ∧ NamesIn lo w' v' ns ∧ w.grownBy w' (some B) := by
  obtain ⟨i, hi, he⟩ := Option.map_eq_some_iff.1 i9
  simp only [Prod.mk.injEq] at he
  obtain ⟨hz, hs, hb⟩ := he
  have hown : w.ownsRow lo 9 1 (.slice (some ⟨B, 0, none⟩) 0 0) 0 [] := ⟨rfl, .inr ⟨B, 0, #[], rfl, hlB, hB, Nat.le_refl _, Nat.zero_le _, rfl, rfl⟩⟩
  cases p with
  | none =>
    have h0 : ns = [] := by
      obtain ⟨b, o, h1, _⟩ := hS
      cases ns with
      | nil => rfl
      | cons x ns => exact absurd (h1 (by simp)).1 (by simp)
    subst h0
    rw [hp rfl]
    exact ⟨_, _, run_append_owned_none (P := Tryz.prog) w lo 102 ty 9 i 1 u50 hi _ 0 [] hown, hown, ⟨rfl, rfl, rfl, Nat.le_refl _, fun _ _ _ => rfl⟩⟩
  | some a =>
    have hnews : ∀ j u, (ns.map fun l => Value.string ⟨l.toArray⟩)[j]? = some u → w.cell? (a.add j) = some u := by
      intro j u hu
      obtain ⟨b, o, h1, h2⟩ := hS
      have hj : j < ns.length := by
        obtain ⟨hlt, _⟩ := List.getElem?_eq_some_iff.1 hu
        simpa using hlt
      have ha : a = ⟨b, o, none⟩ := by simpa using (h1 (by omega)).1
      subst ha
      have hadd : (⟨b, o, none⟩ : Addr).add j = ⟨b, o + j, none⟩ := by unfold Addr.add; split <;> simp_all
      rw [hadd, h2 j hj]
      rw [List.getElem?_map, List.getElem?_eq_getElem hj] at hu
      simpa [List.getD_eq_getElem?_getD, List.getElem?_eq_getElem hj] using hu
    obtain ⟨v', w', hr, ho, hg, _⟩ := run_append_own (P := Tryz.prog) w lo 102 ty 9 i _ 1 16 u50 hi hz hs hb rfl (by decide) (.slice (some ⟨B, 0, none⟩) 0 0) 0 [] hown a ns.length c (ns.map fun l => Value.string ⟨l.toArray⟩) (by simp)
      hnews (by simp [Value.oneCell']) (by simp only [maxLen]; omega) (by omega) hlo
    refine ⟨v', w', hr, ?_, hg⟩
    simpa [NamesIn] using ho
end Go.Proofs.YthfjmcomhccbaaaGreatDoor

namespace Tmx
open Go.Deep

theorem plen_pos (c : UInt8) (r : List UInt8) : 0 < plen (c :: r) := by
  unfold plen
  split
  · omega
  · rename_i h
    have : wlen (c :: r) ≠ 0 := fun e => h ⟨e, by simp⟩
    omega
theorem skip_skip : ∀ l, skip (skip l) = skip l
  | [] => rfl
  | c :: r => by
    rw [skip]
    split
    · exact skip_skip r
    · rename_i h; exact skip_self c r h
theorem peek_skip (l : List UInt8) : peekW (skip l) = peekW l := by unfold peekW; rw [skip_skip]
theorem rest_skip (l : List UInt8) : restW (skip l) = restW l := by unfold restW; rw [skip_skip]
theorem peek_nil {l : List UInt8} (h : peekW l = []) : skip l = [] := by
  unfold peekW at h
  cases e : skip l with
  | nil => rfl
  | cons c r =>
    rw [e] at h
    have := plen_pos c r
    have h2 : ((c :: r).take (plen (c :: r))).length = 0 := by rw [h]; rfl
    rw [List.length_take] at h2
    simp at h2
    omega
theorem rest_nil {l : List UInt8} (h : peekW l = []) : restW l = [] := by
  unfold restW
  rw [peek_nil h]
  simp
theorem rest_lt {l : List UInt8} (h : peekW l ≠ []) : (restW l).length < l.length := by
  have h1 := skip_len l
  cases e : skip l with
  | nil => unfold peekW at h; rw [e] at h; simp at h
  | cons c r =>
    have := plen_pos c r
    unfold restW
    rw [e, List.length_drop]
    rw [e] at h1
    simp only [List.length_cons] at h1 ⊢
    omega

def toksN : Nat → List UInt8 → List (List UInt8)
  | 0, _ => []
  | n + 1, l => if peekW l = [] then [] else peekW l :: toksN n (restW l)
/-- A text's words. -/
def toks (l : List UInt8) : List (List UInt8) := toksN l.length l
theorem toksN_le : ∀ (n m : Nat) (l : List UInt8), l.length ≤ n → l.length ≤ m → toksN n l = toksN m l
  | 0, 0, _, _, _ => rfl
  | 0, m + 1, l, h, _ => by
    obtain rfl : l = [] := List.eq_nil_of_length_eq_zero (by omega)
    rfl
  | n + 1, 0, l, _, h => by
    obtain rfl : l = [] := List.eq_nil_of_length_eq_zero (by omega)
    rfl
  | n + 1, m + 1, l, h, h' => by
    rw [toksN, toksN]
    by_cases hp : peekW l = []
    · rw [if_pos hp, if_pos hp]
    · have := rest_lt hp
      rw [if_neg hp, if_neg hp, toksN_le n m (restW l) (by omega) (by omega)]
theorem toks_none {l : List UInt8} (h : peekW l = []) : toks l = [] := by
  unfold toks
  cases e : l.length with
  | zero => rfl
  | succ n => rw [toksN, if_pos h]
theorem toks_some {l : List UInt8} (h : peekW l ≠ []) : toks l = peekW l :: toks (restW l) := by
  have hlt := rest_lt h
  unfold toks
  cases e : l.length with
  | zero => omega
  | succ n => rw [toksN, if_neg h, toksN_le n _ _ (by omega) (Nat.le_refl _)]

/-- The next word; empty: none. -/
def hdT (ts : List (List UInt8)) : List UInt8 := ts.headD []
theorem peek_toks (l : List UInt8) : peekW l = hdT (toks l) := by
  by_cases h : peekW l = []
  · rw [toks_none h, h]; rfl
  · rw [toks_some h]; rfl
theorem rest_toks (l : List UInt8) : toks (restW l) = (toks l).tail := by
  by_cases h : peekW l = []
  · rw [toks_none h, rest_nil h]; rfl
  · rw [toks_some h]; rfl
theorem skip_toks (l : List UInt8) : toks (skip l) = toks l := by
  by_cases h : peekW l = []
  · rw [toks_none h, toks_none (by rw [peek_skip]; exact h)]
  · rw [toks_some h, toks_some (by rw [peek_skip]; exact h), peek_skip, rest_skip]

def wT (ts : List (List UInt8)) (E : Int) : Int := if hdT ts = [] then failE E 8 else E
theorem wE_toks (l : List UInt8) (E : Int) : wE l E = wT (toks l) E := by unfold wE wT; rw [peek_toks]
def bindT : Nat → List (List UInt8) → List (List UInt8) → Int → List (List UInt8) × List (List UInt8) × Int
  | 0, ns, ts, E => (ns, ts, E)
  | m + 1, ns, ts, E => bindT m (ns ++ [hdT ts]) ts.tail (if nameB (hdT ts) = false then failE (wT ts E) 7 else wT ts E)
abbrev TermTF := List (List UInt8) → List (List UInt8) → Int → (Int × Int × F) × List (List UInt8) × Int
def argsT (T : TermTF) : List UInt8 → F → List (List UInt8) → List (List UInt8) → Int → F × List (List UInt8) × Int
  | [], A, _, ts, E => (A, ts, E)
  | c :: sh, A, ns, ts, E =>
    argsT T sh (snoc A (T (bindT (c.toNat - 48) ns ts E).1 (bindT (c.toNat - 48) ns ts E).2.1 (if 8 < (bindT (c.toNat - 48) ns ts E).1.length then failE (bindT (c.toNat - 48) ns ts E).2.2 5 else (bindT (c.toNat - 48) ns ts E).2.2)).1) ns
      (T (bindT (c.toNat - 48) ns ts E).1 (bindT (c.toNat - 48) ns ts E).2.1 (if 8 < (bindT (c.toNat - 48) ns ts E).1.length then failE (bindT (c.toNat - 48) ns ts E).2.2 5 else (bindT (c.toNat - 48) ns ts E).2.2)).2.1
      (T (bindT (c.toNat - 48) ns ts E).1 (bindT (c.toNat - 48) ns ts E).2.1 (if 8 < (bindT (c.toNat - 48) ns ts E).1.length then failE (bindT (c.toNat - 48) ns ts E).2.2 5 else (bindT (c.toNat - 48) ns ts E).2.2)).2.2
def headKT (ts : List (List UInt8)) : Int := if 0 < kindOf (hdT ts) ∧ shpL (kindOf (hdT ts)) ≠ [] then kindOf (hdT ts) else 5
def headTT (ts : List (List UInt8)) : List (List UInt8) := if 0 < kindOf (hdT ts) ∧ shpL (kindOf (hdT ts)) ≠ [] then ts.tail else ts
def headET (ts : List (List UInt8)) (E : Int) : Int := if 0 < kindOf (hdT ts) ∧ shpL (kindOf (hdT ts)) ≠ [] then wT ts E else E
def tailET (ts : List (List UInt8)) (E : Int) : Int := if hdT ts = [41] then wT ts E else failE (wT ts E) 2
/-- A term of words, so many levels at most. -/
def termT (ds : List (List UInt8)) : Nat → TermTF
  | 0 => fun _ ts E => ((0, 0, .nil), ts, failE E 9)
  | n + 1 => fun ns ts E =>
    if E ≠ 0 then ((0, 0, .nil), ts, E)
    else if hdT ts = [40] then
      ((headKT ts.tail, 0, (argsT (termT ds n) (shpL (headKT ts.tail)) .nil ns (headTT ts.tail) (headET ts.tail (wT ts E))).1),
        (argsT (termT ds n) (shpL (headKT ts.tail)) .nil ns (headTT ts.tail) (headET ts.tail (wT ts E))).2.1.tail,
        tailET (argsT (termT ds n) (shpL (headKT ts.tail)) .nil ns (headTT ts.tail) (headET ts.tail (wT ts E))).2.1 (argsT (termT ds n) (shpL (headKT ts.tail)) .nil ns (headTT ts.tail) (headET ts.tail (wT ts E))).2.2)
    else ((atomS ns ds (hdT ts) (wT ts E)).1, ts.tail, (atomS ns ds (hdT ts) (wT ts E)).2)

theorem bindS_toks : ∀ (m : Nat) (ns : List (List UInt8)) (l : List UInt8) (E : Int), (bindS m ns l E).1 = (bindT m ns (toks l) E).1 ∧ toks (bindS m ns l E).2.1 = (bindT m ns (toks l) E).2.1 ∧ (bindS m ns l E).2.2 = (bindT m ns (toks l) E).2.2
  | 0, _, _, _ => ⟨rfl, rfl, rfl⟩
  | m + 1, ns, l, E => by
    rw [bindS, bindT, ← peek_toks, ← wE_toks, ← rest_toks]
    exact bindS_toks m _ _ _
theorem argsS_toks {S : TermF} {T : TermTF} (h : ∀ ns l E, (S ns l E).1 = (T ns (toks l) E).1 ∧ toks (S ns l E).2.1 = (T ns (toks l) E).2.1 ∧ (S ns l E).2.2 = (T ns (toks l) E).2.2) :
    ∀ (sh : List UInt8) (A : F) (ns : List (List UInt8)) (l : List UInt8) (E : Int), (argsS S sh A ns l E).1 = (argsT T sh A ns (toks l) E).1 ∧ toks (argsS S sh A ns l E).2.1 = (argsT T sh A ns (toks l) E).2.1 ∧ (argsS S sh A ns l E).2.2 = (argsT T sh A ns (toks l) E).2.2
  | [], _, _, _, _ => ⟨rfl, rfl, rfl⟩
  | c :: sh, A, ns, l, E => by
    obtain ⟨b1, b2, b3⟩ := bindS_toks (c.toNat - 48) ns l E
    obtain ⟨h1, h2, h3⟩ := h (bindS (c.toNat - 48) ns l E).1 (bindS (c.toNat - 48) ns l E).2.1 (if 8 < (bindS (c.toNat - 48) ns l E).1.length then failE (bindS (c.toNat - 48) ns l E).2.2 5 else (bindS (c.toNat - 48) ns l E).2.2)
    rw [argsS, argsT]
    have ih := argsS_toks h sh (snoc A (S (bindS (c.toNat - 48) ns l E).1 (bindS (c.toNat - 48) ns l E).2.1 (if 8 < (bindS (c.toNat - 48) ns l E).1.length then failE (bindS (c.toNat - 48) ns l E).2.2 5 else (bindS (c.toNat - 48) ns l E).2.2)).1) ns
      (S (bindS (c.toNat - 48) ns l E).1 (bindS (c.toNat - 48) ns l E).2.1 (if 8 < (bindS (c.toNat - 48) ns l E).1.length then failE (bindS (c.toNat - 48) ns l E).2.2 5 else (bindS (c.toNat - 48) ns l E).2.2)).2.1
      (S (bindS (c.toNat - 48) ns l E).1 (bindS (c.toNat - 48) ns l E).2.1 (if 8 < (bindS (c.toNat - 48) ns l E).1.length then failE (bindS (c.toNat - 48) ns l E).2.2 5 else (bindS (c.toNat - 48) ns l E).2.2)).2.2
    rw [h1, h2, h3, b1, b2, b3] at ih
    rw [h1, h3, b1, b2, b3]
    exact ih
theorem headK_toks (l : List UInt8) : headK l = headKT (toks l) := by unfold headK headKT; rw [peek_toks]
theorem headL_toks (l : List UInt8) : toks (headL l) = headTT (toks l) := by
  unfold headL headTT
  rw [peek_toks]
  split
  · rw [rest_skip, rest_toks]
  · rw [skip_toks]
theorem headE_toks (l : List UInt8) (E : Int) : headE l E = headET (toks l) E := by
  unfold headE headET
  rw [peek_toks, wE_toks, skip_toks]
theorem tailE_toks (l : List UInt8) (E : Int) : tailE l E = tailET (toks l) E := by
  unfold tailE tailET
  rw [peek_toks, wE_toks]
theorem termS_toks (ds : List (List UInt8)) : ∀ (n : Nat) (ns : List (List UInt8)) (l : List UInt8) (E : Int), (termS ds n ns l E).1 = (termT ds n ns (toks l) E).1 ∧ toks (termS ds n ns l E).2.1 = (termT ds n ns (toks l) E).2.1 ∧ (termS ds n ns l E).2.2 = (termT ds n ns (toks l) E).2.2
  | 0, _, _, _ => ⟨rfl, rfl, rfl⟩
  | n + 1, ns, l, E => by
    rw [termS, termT]
    dsimp only
    by_cases hE : E ≠ 0
    · rw [if_pos hE, if_pos hE]
      exact ⟨rfl, rfl, rfl⟩
    · rw [if_neg hE, if_neg hE, ← peek_toks]
      by_cases hb : peekW l = [40]
      · rw [if_pos hb, if_pos hb]
        dsimp only
        obtain ⟨a1, a2, a3⟩ := argsS_toks (termS_toks ds n) (shpL (headK (restW l))) .nil ns (headL (restW l)) (headE (restW l) (wE l E))
        rw [headL_toks, rest_toks, headE_toks, rest_toks, wE_toks, headK_toks, rest_toks] at a1 a2 a3
        refine ⟨?_, ?_, ?_⟩
        · rw [headK_toks, rest_toks, headE_toks, rest_toks, wE_toks, a1]
        · rw [rest_toks, headK_toks, rest_toks, headE_toks, rest_toks, wE_toks, a2]
        · rw [tailE_toks, headK_toks, rest_toks, headE_toks, rest_toks, wE_toks, a2, a3]
      · rw [if_neg hb, if_neg hb]
        dsimp only
        rw [wE_toks, rest_toks]
        exact ⟨rfl, rfl, rfl⟩
end Tmx
