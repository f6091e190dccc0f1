/-
  Whether types are the same, plainly, as far as they are not stuck alike. Contracts: alike, hangs, stuck.
-/
/-
  Contracts: mustType; what a hold is in memory.
-/
/-
  Contracts: bind.
-/
import Derived.Test.YthfjmcomhccbaaaGreatDoorE22m
import Derived.Deep.AppendLies
namespace Evx
open Tmx
def alikeV (a b : V) (k : Int) (m : Nat) : Bool := a.is k m && b.is k m
/-- Both hang on an argument. -/
def hangsV (a b : V) : Bool := alikeV a b 5 2 || alikeV a b 8 1 || alikeV a b 9 1 || alikeV a b 13 2 || alikeV a b 17 4
end Evx
namespace Go.Proofs.YthfjmcomhccbaaaGreatDoor
open Go.RowKit Tmx Evx
set_option maxRecDepth 60000

/-- What two types leave, where so many are bound: nothing but no; or pairs of types, and how many more are bound. -/
def asTypesV (rec : Th → Option V) (n : Nat) (a b : Th) : Option (Bool × List (Th × Th) × List Th) :=
  match rec a, rec b with
  | some x, some y =>
    if alikeV x y 2 0 then some (decide (x.num = y.num), [], [])
    else if alikeV x y 10 0 || alikeV x y 12 0 || alikeV x y 14 0 then some (true, [], [])
    else if alikeV x y 3 2 || alikeV x y 6 2 then
      match argV x 0 [], argV y 0 [], argV x 1 [.val (free n)], argV y 1 [.val (free n)] with
      | some a0, some b0, some a1, some b1 => some (true, [(a0, b0), (a1, b1)], [a0])
      | _, _, _, _ => none
    else if hangsV x y || alikeV x y 1 0 then none
    else some (false, [], [])
  | _, _ => none
/-- Are all pairs of types the same? -/
def allV (rec : Th → Option V) : Nat → List (Th × Th) → Nat → Option Bool
  | 0, _, _ => none
  | s + 1, l, n => match l.getLast? with
    | none => some true
    | some (a, b) => match asTypesV rec n a b with
      | none => none
      | some (false, _, _) => some false
      | some (true, more, ts) => allV rec s (l.dropLast ++ more) (n + ts.length)

theorem alike_any (qa qb : Nat) (a b : V) (k : Int) (m : Nat) (g : Gh) (w : World) (hi : Inv g w) (ha : g.v qa = some a) (hb : g.v qb = some b) :
    Calls Tryz.prog 186 #[ptr qa, ptr qb, .int .i64 k, .int .i64 (m : Int)] w fun e w' => e = .returned (.bool (alikeV a b k m)) ∧ w' = w := by
  have H1 := is_any qa a k m g w hi ha
  have H2 := is_any qb b k m g w hi hb
  unfold alikeV ptr at *
  clear hi ha hb
  cases e1 : a.is k m
  · rw [e1] at H1
    go_enter Tryz.func186, Tryz.ntmps186
    go_wp2_with (first | (refine H1.mono ?_; rintro e w1 ⟨rfl, rfl⟩))
    refine bodyPost_ret (v := .bool false) (by simp [results, Tryz.results186, go_sem]) rfl ⟨rfl, rfl⟩
  · rw [e1] at H1
    go_enter Tryz.func186, Tryz.ntmps186
    go_wp2_with fail
    refine H1.mono ?_
    rintro e w1 ⟨rfl, rfl⟩
    clear H1
    go_wp2_with fail
    refine H2.mono ?_
    rintro e w2 ⟨rfl, rfl⟩
    go_wp2_with fail
    refine bodyPost_ret (v := .bool (b.is k m)) (by simp [results, Tryz.results186, go_sem]) rfl ⟨rfl, rfl⟩

set_option maxHeartbeats 2000000 in
theorem hangs_any (qa qb : Nat) (a b : V) (g : Gh) (w : World) (hi : Inv g w) (ha : g.v qa = some a) (hb : g.v qb = some b) (hh : hangsV a b = false) :
    Calls Tryz.prog 191 #[ptr qa, ptr qb] w fun e w' => e = .returned (.int .i64 (-1)) ∧ w' = w := by
  simp only [hangsV, Bool.or_eq_false_iff] at hh
  obtain ⟨⟨⟨⟨e5, e8⟩, e9⟩, e13⟩, e17⟩ := hh
  have H5 : Calls Tryz.prog 186 #[.pointer (some ⟨qa, 0, none⟩), .pointer (some ⟨qb, 0, none⟩), .int .i64 5, .int .i64 2] w fun e w' => e = .returned (.bool false) ∧ w' = w := e5 ▸ alike_any qa qb a b 5 2 g w hi ha hb
  have H8 : Calls Tryz.prog 186 #[.pointer (some ⟨qa, 0, none⟩), .pointer (some ⟨qb, 0, none⟩), .int .i64 8, .int .i64 1] w fun e w' => e = .returned (.bool false) ∧ w' = w := e8 ▸ alike_any qa qb a b 8 1 g w hi ha hb
  have H9 : Calls Tryz.prog 186 #[.pointer (some ⟨qa, 0, none⟩), .pointer (some ⟨qb, 0, none⟩), .int .i64 9, .int .i64 1] w fun e w' => e = .returned (.bool false) ∧ w' = w := e9 ▸ alike_any qa qb a b 9 1 g w hi ha hb
  have H13 : Calls Tryz.prog 186 #[.pointer (some ⟨qa, 0, none⟩), .pointer (some ⟨qb, 0, none⟩), .int .i64 13, .int .i64 2] w fun e w' => e = .returned (.bool false) ∧ w' = w := e13 ▸ alike_any qa qb a b 13 2 g w hi ha hb
  have H17 : Calls Tryz.prog 186 #[.pointer (some ⟨qa, 0, none⟩), .pointer (some ⟨qb, 0, none⟩), .int .i64 17, .int .i64 4] w fun e w' => e = .returned (.bool false) ∧ w' = w := e17 ▸ alike_any qa qb a b 17 4 g w hi ha hb
  unfold ptr
  clear hi ha hb e5 e8 e9 e13 e17
  go_enter Tryz.func191, Tryz.ntmps191
  go_wp2_with (first | ((with_reducible refine H5.mono ?_); rintro e w1 ⟨rfl, rfl⟩) | ((with_reducible refine H8.mono ?_); rintro e w1 ⟨rfl, rfl⟩) | ((with_reducible refine H9.mono ?_); rintro e w1 ⟨rfl, rfl⟩) | ((with_reducible refine H13.mono ?_); rintro e w1 ⟨rfl, rfl⟩) | ((with_reducible refine H17.mono ?_); rintro e w1 ⟨rfl, rfl⟩))
  refine bodyPost_ret (v := .int .i64 (-1)) (by simp [results, Tryz.results191, go_sem]) rfl ⟨rfl, rfl⟩

set_option maxHeartbeats 2000000 in
theorem stuck_any (h : Value) (qa qb : Nat) (a b : V) (g : Gh) (w : World) (hi : Inv g w) (ha : g.v qa = some a) (hb : g.v qb = some b) (hh : hangsV a b = false) (h1 : alikeV a b 1 0 = false) :
    Calls Tryz.prog 188 #[h, ptr qa, ptr qb] w fun e w' => e = .returned (.bool false) ∧ Ste g w g w' := by
  have H0 := hangs_any qa qb a b g w hi ha hb hh
  have hd := Ste.drew hi
  have H1 : Calls Tryz.prog 186 #[.pointer (some ⟨qa, 0, none⟩), .pointer (some ⟨qb, 0, none⟩), .int .i64 1, .int .i64 0] w.drew fun e w' => e = .returned (.bool false) ∧ w' = w.drew := h1 ▸ alike_any qa qb a b 1 0 g w.drew hd.inv ha hb
  have HD : Hid (Ste g w g w.drew) := hd
  unfold ptr at *
  clear hi ha hb hh h1 hd
  go_enter Tryz.func188, Tryz.ntmps188
  go_wp2_with (first | ((with_reducible refine H0.mono ?_); rintro e w1 ⟨rfl, rfl⟩))
  go_loopw [1, 2, 8] (fun p1 p2 at_ wr => p1 = .pointer (some ⟨qa, 0, none⟩) ∧ p2 = .pointer (some ⟨qb, 0, none⟩) ∧ at_ = .int .i64 (-1) ∧ wr = w1) (fun _ _ _ _ => 0)
  case atStart => exact ⟨rfl, rfl, rfl, rfl⟩
  case round =>
    obtain ⟨rfl, rfl, rfl, rfl⟩ := hrel
    go_wp2_with fail
    first
    | go_region_law (first | (refine step_unwanted rfl ?_) | (go_simp; go_at_call 186; refine H1.mono ?_; rintro e w2 ⟨rfl, rfl⟩))
    | fail
    all_goals (go_wp2_with fail)
    all_goals (refine bodyPost_ret (v := .bool false) (by simp [results, Tryz.results188, go_sem]) rfl ⟨rfl, HD.out⟩)
end Go.Proofs.YthfjmcomhccbaaaGreatDoor

namespace Go.Proofs.YthfjmcomhccbaaaGreatDoor
open Go.RowKit Tmx Evx
set_option maxRecDepth 60000

/-- An append whose run is known, in a plain region. -/
theorem wpList_app_run {P : Program} {ops : Array Oper} {rest : List Oper} {o : Oper} {a : Act} {Q : Exit → Act → World → Prop} {w w' : World} (hgd : o.guard = none) (s x : Operand) (t t' : TypeId)
    (ho : o.op = .call { callee := .builtin .append, args := #[s, x], argTypes := #[t, t'] }) (v1 v2 v' : Value) (hs : a.eval s = v1) (hx : a.eval x = v2)
    (hr : (Builtin.append_ #[t, t'] o.type #[v1, v2]).run P w = .ok v' w') (h : wpList P ops Q rest (a.put o.dst v') w') : wpList P ops Q (o :: rest) a w :=
  wpList_plain hgd fun _ hK => by
    unfold Oper.wp execOp
    simp only [ho, resolve, invoke, builtin, Sem.run_bind, Sem.run_pure, Result.andThen_ok, List.map_toArray, List.map_cons, List.map_nil, hs, hx, hr]
    exact hK _ _ h

theorem ownsRow_keep {w w' : World} {lo n sz : Nat} {e : TypeId} {v : Value} {xs : List Value} (h : w.ownsRow lo e sz v n xs) (hb : ∀ b, v.ownBlock = some b → w'.heap[b]? = w.heap[b]?) : w'.ownsRow lo e sz v n xs := by
  obtain ⟨g1, g2⟩ := h
  refine ⟨g1, ?_⟩
  rcases g2 with g2 | ⟨g, cap, cur, e, hg, hh, hr⟩
  · exact .inl g2
  · exact .inr ⟨g, cap, cur, e, hg, by rw [hb g (by rw [e]; rfl)]; exact hh, hr⟩
theorem ownsRow_blk {w : World} {lo n sz : Nat} {e : TypeId} {v : Value} {xs : List Value} (h : w.ownsRow lo e sz v n xs) {b : Nat} (hb : v.ownBlock = some b) : lo ≤ b ∧ ∃ cur, Blk w b cur e := by
  obtain ⟨_, g2⟩ := h
  rcases g2 with ⟨e, _⟩ | ⟨g, cap, cur, e, hg, hh, _⟩
  · rw [e] at hb; cases hb
  · rw [e] at hb
    obtain rfl : g = b := by simpa [Value.ownBlock] using hb
    exact ⟨hg, cur, hh⟩
theorem Blk.ne {w : World} {b c : Nat} {x y : Array Value} {T U : TypeId} (h : Blk w b x T) (k : Blk w c y U) (hT : T ≠ U) : b ≠ c := by
  rintro rfl
  have := h.symm.trans k
  simp only [Option.some.injEq, Obj.cells.injEq] at this
  exact hT this.2.1
theorem Blk.set3 {w : World} {b : Nat} {x y z : Value} {T : TypeId} (h : Blk w b #[x, y, z] T) (x' : Value) : Blk (w.setCell ⟨b, 0, none⟩ x') b #[x', y, z] T := by
  unfold Blk at *
  simp [World.setCell, Array.getElem?_modify, h]
theorem Blk.set32 {w : World} {b : Nat} {x y z : Value} {T : TypeId} (h : Blk w b #[x, y, z] T) (z' : Value) : Blk (w.setCell ⟨b, 2, none⟩ z') b #[x, y, z'] T := by
  unfold Blk at *
  simp [World.setCell, Array.getElem?_modify, h]

theorem uBoth : Tryz.prog.underlying 222 = some (.slice 236) := by kernel_rfl
theorem iBoth : (Tryz.prog.info? 236).map (fun i => (i.zero, i.size, i.bytes)) = some (some (.agg #[.pointer none, .pointer none, .pointer none]), 3, 24) := by kernel_rfl
theorem uLat : Tryz.prog.underlying 65 = some (.slice 43) := by kernel_rfl
theorem iLat : (Tryz.prog.info? 43).map (fun i => (i.zero, i.size, i.bytes)) = some (some (.pointer none), 1, 8) := by kernel_rfl

theorem append_both (w : World) (lo : Nat) (v : Value) (n : Nat) (xs : List Value) (h : w.ownsRow lo 236 3 v n xs) (B c : Nat) (x y z : Value) (hB : Blk w B #[x, y, z] 236)
    (h1 : x.oneCell' = true ∧ y.oneCell' = true ∧ z.oneCell' = true) (hn : n ≤ 1000000) (hlo : lo ≤ w.heap.size) (ty : TypeId) :
    ∃ g cap w', (Builtin.append_ #[222, 222] ty #[v, .slice (some ⟨B, 0, none⟩) 1 c]).run Tryz.prog w = .ok (.slice (some ⟨g, 0, none⟩) (n + 1) cap) w' ∧
      w'.ownsRow lo 236 3 (.slice (some ⟨g, 0, none⟩) (n + 1) cap) (n + 1) (xs ++ [x, y, z]) ∧ w.grownBy w' v.ownBlock ∧ (v.ownBlock = some g ∨ g = w.heap.size) ∧ g < w'.heap.size := by
  obtain ⟨i, hi, he⟩ := Option.map_eq_some_iff.1 iBoth
  simp only [Prod.mk.injEq] at he
  obtain ⟨hz, hs, hb⟩ := he
  exact run_append_lies (P := Tryz.prog) w 222 ty lo 236 i _ 3 24 uBoth hi hz hs hb rfl (by decide) v n xs h ⟨B, 0, none⟩ 1 c [x, y, z] rfl
    (World.news_of_block hB) (by simp [h1]) (by decide) (by simp only [maxLen]; omega) (by omega) hlo w.heap.size rfl
theorem append_lat (w : World) (lo : Nat) (v : Value) (n : Nat) (xs : List Value) (h : w.ownsRow lo 43 1 v n xs) (B c : Nat) (x : Value) (hB : Blk w B #[x] 43)
    (h1 : x.oneCell' = true) (hn : n ≤ 1000000) (hlo : lo ≤ w.heap.size) (ty : TypeId) :
    ∃ g cap w', (Builtin.append_ #[65, 65] ty #[v, .slice (some ⟨B, 0, none⟩) 1 c]).run Tryz.prog w = .ok (.slice (some ⟨g, 0, none⟩) (n + 1) cap) w' ∧
      w'.ownsRow lo 43 1 (.slice (some ⟨g, 0, none⟩) (n + 1) cap) (n + 1) (xs ++ [x]) ∧ w.grownBy w' v.ownBlock ∧ (v.ownBlock = some g ∨ g = w.heap.size) ∧ g < w'.heap.size := by
  obtain ⟨i, hi, he⟩ := Option.map_eq_some_iff.1 iLat
  simp only [Prod.mk.injEq] at he
  obtain ⟨hz, hs, hb⟩ := he
  exact run_append_lies (P := Tryz.prog) w 65 ty lo 43 i _ 1 8 uLat hi hz hs hb rfl (by decide) v n xs h ⟨B, 0, none⟩ 1 c [x] rfl
    (World.news_of_block hB) (by simp [h1]) (by decide) (by simp only [maxLen]; omega) (by omega) hlo w.heap.size rfl

/-- A block of the caller's own: no ghost's. -/
def Own1 (g : Gh) (b : Nat) : Prop := g.l b = none ∧ ¬ g.o b
theorem Own1.ste {g g' : Gh} {w w' : World} {b : Nat} (h : Own1 g b) (hb : b < w.heap.size) (hs : Ste g w g' w') : Own1 g' b ∧ w'.heap[b]? = w.heap[b]? :=
  ⟨⟨hs.le.ln b hb h.1, fun e => h.2 (hs.le.on b hb e)⟩, hs.keep.block b hb h.1⟩

/-- What is left, three cells each. -/
def LeftIs (g : Gh) : List Value → List (Th × Th) → Prop
  | xs, [] => xs = []
  | xs, (a, b) :: r => ∃ x y ys, xs = x :: y :: .pointer none :: ys ∧ PL g x a ∧ PL g y b ∧ LeftIs g ys r
theorem LeftIs.mono {g g' : Gh} (h : ∀ b t, g.l b = some t → g'.l b = some t) : ∀ {L : List (Th × Th)} {xs : List Value}, LeftIs g xs L → LeftIs g' xs L
  | [], _, e => e
  | _ :: _, _, ⟨x, y, ys, e, ⟨p, e1, h1⟩, ⟨q, e2, h2⟩, hr⟩ => ⟨x, y, ys, e, ⟨p, e1, h _ _ h1⟩, ⟨q, e2, h _ _ h2⟩, hr.mono h⟩
theorem LeftIs.push {g : Gh} {x y : Value} {a b : Th} (hx : PL g x a) (hy : PL g y b) : ∀ {L : List (Th × Th)} {xs : List Value}, LeftIs g xs L → LeftIs g (xs ++ [x, y, .pointer none]) (L ++ [(a, b)])
  | [], _, e => by subst e; exact ⟨x, y, [], rfl, hx, hy, rfl⟩
  | _ :: _, _, ⟨x', y', ys, e, h1, h2, hr⟩ => by subst e; exact ⟨x', y', _, rfl, h1, h2, hr.push hx hy⟩
theorem LeftIs.last {g : Gh} {a b : Th} : ∀ {L : List (Th × Th)} {xs : List Value}, LeftIs g xs (L ++ [(a, b)]) → ∃ ys x y, xs = ys ++ [x, y, .pointer none] ∧ PL g x a ∧ PL g y b ∧ LeftIs g ys L
  | [], _, ⟨x, y, ys, e, h1, h2, h3⟩ => ⟨[], x, y, by rw [e, (show ys = [] from h3)]; rfl, h1, h2, rfl⟩
  | _ :: _, _, ⟨x', y', ys, e, h1, h2, hr⟩ => by
    obtain ⟨zs, x, y, e', h3, h4, h5⟩ := hr.last
    exact ⟨x' :: y' :: .pointer none :: zs, x, y, by rw [e, e']; rfl, h3, h4, x', y', zs, rfl, h1, h2, h5⟩

/-- A hold: what is left, how many are bound ahead of all, how many since. -/
structure HoldIn (g : Gh) (w0 w : World) (bh : Nat) (vl : Value) (pa : Option Addr) (n ca : Nat) (vt : Value) (L : List (Th × Th)) (c : Nat) : Prop where
  lo : w0.heap.size ≤ bh
  my : Own1 g bh
  blk : Blk w bh #[vl, .slice pa n ca, vt] 224
  left : ∃ xs, w.ownsRow w0.heap.size 236 3 vl L.length xs ∧ LeftIs g xs L
  lmy : ∀ b, vl.ownBlock = some b → Own1 g b
  types : ∃ xs, w.ownsRow w0.heap.size 43 1 vt c xs
  tmy : ∀ b, vt.ownBlock = some b → Own1 g b
def HoldAt (g : Gh) (w0 w : World) (bh n : Nat) (L : List (Th × Th)) (c : Nat) : Prop := ∃ vl pa ca vt, HoldIn g w0 w bh vl pa n ca vt L c
theorem HoldIn.ste {g g' : Gh} {w0 w w' : World} {bh : Nat} {vl : Value} {pa : Option Addr} {n ca : Nat} {vt : Value} {L : List (Th × Th)} {c : Nat} (h : HoldIn g w0 w bh vl pa n ca vt L c) (hs : Ste g w g' w') : HoldIn g' w0 w' bh vl pa n ca vt L c := by
  obtain ⟨xs, h1, h2⟩ := h.left
  obtain ⟨ys, h3⟩ := h.types
  have k := h.my.ste h.blk.lt hs
  have kl : ∀ b, vl.ownBlock = some b → Own1 g' b ∧ w'.heap[b]? = w.heap[b]? := fun b hb => (h.lmy b hb).ste (let ⟨_, _, q⟩ := ownsRow_blk h1 hb; q.lt) hs
  have kt : ∀ b, vt.ownBlock = some b → Own1 g' b ∧ w'.heap[b]? = w.heap[b]? := fun b hb => (h.tmy b hb).ste (let ⟨_, _, q⟩ := ownsRow_blk h3 hb; q.lt) hs
  exact ⟨h.lo, k.1, h.blk.of_eq k.2, ⟨xs, ownsRow_keep h1 fun b hb => (kl b hb).2, h2.mono hs.le.l⟩, fun b hb => (kl b hb).1, ⟨ys, ownsRow_keep h3 fun b hb => (kt b hb).2⟩, fun b hb => (kt b hb).1⟩
theorem HoldAt.ste {g g' : Gh} {w0 w w' : World} {bh n : Nat} {L : List (Th × Th)} {c : Nat} (h : HoldAt g w0 w bh n L c) (hs : Ste g w g' w') : HoldAt g' w0 w' bh n L c :=
  let ⟨vl, pa, ca, vt, h⟩ := h
  ⟨vl, pa, ca, vt, h.ste hs⟩

theorem Ste.grown {g0 g : Gh} {w0 w w' : World} (h : Ste g0 w0 g w) {row : Option Nat} (hg : w.grownBy w' row) (hr : ∀ b, row = some b → w0.heap.size ≤ b ∧ Own1 g b) : Ste g0 w0 g w' := by
  cases row with
  | none => exact h.trans (.below h.inv ⟨hg.os, hg.tape, hg.output, hg.size, fun k hk => hg.block k hk (by simp)⟩)
  | some b => exact h.own (hr b rfl).1 (hr b rfl).2.1 (hr b rfl).2.2 hg.os hg.tape hg.output hg.size fun k hk hne => hg.block k hk (by simpa using hne)

/-- What a function of a hold does to it. -/
def HoldP (g0 : Gh) (w0 : World) (g : Gh) (bh n : Nat) (L : List (Th × Th)) (c : Nat) (w' : World) : Prop := ∃ g', Ste g0 w0 g' w' ∧ (∀ b t, g.l b = some t → g'.l b = some t) ∧ (∀ b v, g.v b = some v → g'.v b = some v) ∧ HoldAt g' w0 w' bh n L c

/-- Behind the append, and the store, of what is left. -/
theorem hold_left {g0 g : Gh} {w0 w w1 w2 : World} {bh : Nat} {vl : Value} {pa : Option Addr} {n ca : Nat} {vt : Value} {L L' : List (Th × Th)} {c q cap : Nat} {ys : List Value} (hs : Ste g0 w0 g w) (hH : HoldIn g w0 w bh vl pa n ca vt L c) (hb : Below w.heap.size w w1)
    (ho : w2.ownsRow w0.heap.size 236 3 (.slice (some ⟨q, 0, none⟩) L'.length cap) L'.length ys) (hL : LeftIs g ys L') (hg : w1.grownBy w2 vl.ownBlock) (hat : vl.ownBlock = some q ∨ q = w1.heap.size) :
    Ste g0 w0 g (w2.setCell ⟨bh, 0, none⟩ (.slice (some ⟨q, 0, none⟩) L'.length cap)) ∧ HoldIn g w0 (w2.setCell ⟨bh, 0, none⟩ (.slice (some ⟨q, 0, none⟩) L'.length cap)) bh (.slice (some ⟨q, 0, none⟩) L'.length cap) pa n ca vt L' c := by
  have hs1 : Ste g w g w1 := .below hs.inv hb
  have h1 := hH.ste hs1
  obtain ⟨xs, h2, _⟩ := h1.left
  obtain ⟨zs, h3⟩ := h1.types
  have hs2 : Ste g0 w0 g w2 := (hs.trans hs1).grown hg fun b hb => ⟨(ownsRow_blk h2 hb).1, h1.lmy b hb⟩
  have hbl : ∀ b cs (T : TypeId), Blk w1 b cs T → T ≠ 236 → Blk w2 b cs T := fun b cs T hB hT => hB.of_eq (hg.block b hB.lt fun e => by
    obtain ⟨_, cur, hc⟩ := ownsRow_blk h2 e.symm
    exact hB.ne hc hT rfl)
  have hB := hbl _ _ _ h1.blk (by decide)
  have hqb : q ≠ bh := by
    obtain ⟨_, cur, hc⟩ := ownsRow_blk ho (b := q) rfl
    exact hc.ne hB (by decide)
  have hmq : Own1 g q := by
    rcases hat with e | e
    · exact h1.lmy q e
    · exact ⟨hs1.inv.l_new (by omega), hs1.inv.o_new (by omega)⟩
  refine ⟨hs2.setCell h1.lo h1.my.1 h1.my.2 _, h1.lo, h1.my, hB.set3 _, ⟨ys, ownsRow_keep ho fun b hb => ?_, hL⟩, fun b hb => ?_, ⟨zs, ownsRow_keep h3 fun b hb => ?_⟩, h1.tmy⟩
  · obtain rfl : q = b := by simpa [Value.ownBlock] using hb
    exact Below.heap_setCell _ _ _ _ hqb
  · obtain rfl : q = b := by simpa [Value.ownBlock] using hb
    exact hmq
  · obtain ⟨_, cur, hc⟩ := ownsRow_blk h3 hb
    have hc2 := hbl _ _ _ hc (by decide)
    rw [Below.heap_setCell _ _ _ _ (show b ≠ bh from hc2.ne hB (by decide)), show w2.heap[b]? = w1.heap[b]? from hc2.trans hc.symm]

set_option maxHeartbeats 2000000 in
theorem mustType_any (bh qa qb n : Nat) (ta tb : Th) (L : List (Th × Th)) (c : Nat) (g0 g : Gh) (w0 w : World) (hs : Ste g0 w0 g w) (hH : HoldAt g w0 w bh n L c) (ha : g.l qa = some ta) (hb : g.l qb = some tb) (hn : L.length ≤ 1000000) :
    Calls Tryz.prog 165 #[ptr bh, ptr qa, ptr qb] w fun e w' => e = .returned (.tuple #[]) ∧ HoldP g0 w0 g bh n (L ++ [(ta, tb)]) c w' := by
  obtain ⟨vl, pa, ca, vt, hH⟩ := hH
  have hb1 : Below w.heap.size w (w.alloc (.cells #[.pointer (some ⟨qa, 0, none⟩), .pointer (some ⟨qb, 0, none⟩), .pointer none] 236)) := (Below.refl _ w).alloc (Nat.le_refl _) _
  have h1 := hH.ste (.below hs.inv hb1)
  obtain ⟨xs, h2, h3⟩ := h1.left
  obtain ⟨q, cap, w2, hr, ho, hg, hat, hlt⟩ := append_both _ w0.heap.size vl L.length xs h2 w.heap.size 1 _ _ _ (Blk.new w _ _) ⟨rfl, rfl, rfl⟩ hn (by have := hs.keep.size; have := hb1.size; omega) 222
  have hp := hold_left (L' := L ++ [(ta, tb)]) hs hH hb1 (by rw [List.length_append]; exact ho) (h3.push ⟨qa, rfl, ha⟩ ⟨qb, rfl, hb⟩) hg hat
  rw [List.length_append] at hp
  have HF : Hid (HoldP g0 w0 g bh n (L ++ [(ta, tb)]) c (w2.setCell ⟨bh, 0, none⟩ (.slice (some ⟨q, 0, none⟩) (L.length + 1) cap))) := ⟨g, hp.1, fun _ _ e => e, fun _ _ e => e, _, _, _, _, hp.2⟩
  have HR := (show Hid _ from hr)
  obtain ⟨c0, _, _, f0, _, _⟩ := h1.blk.three
  have hB2 : Blk w2 bh #[vl, .slice pa n ca, vt] 224 := h1.blk.of_eq (hg.block bh h1.blk.lt fun e => by
    obtain ⟨_, cur, hc⟩ := ownsRow_blk h2 e.symm
    exact h1.blk.ne hc (by decide) rfl)
  obtain ⟨d0, _, _, k0, _, _⟩ := hB2.three
  obtain ⟨e0, _, _, j0, _, _⟩ := hH.blk.three
  clear hp hr hb1 h1 h2 h3 ho hg hat hlt hB2 hH hs ha hb
  unfold ptr at *
  go_enter Tryz.func165, Tryz.ntmps165
  go_wp2_with (first | (at_builtin; refine wpList_app_run rfl _ _ 222 222 rfl _ _ _ rfl rfl HR.out ?_))
  refine bodyPost_end (v := .tuple #[]) (by simp [results, Tryz.results165, go_sem]) rfl ⟨rfl, HF.out⟩
end Go.Proofs.YthfjmcomhccbaaaGreatDoor

namespace Go.Proofs.YthfjmcomhccbaaaGreatDoor
open Go.RowKit Tmx Evx
set_option maxRecDepth 60000

/-- Behind the append, and the store, of a type more. -/
theorem hold_types {g0 g : Gh} {w0 w w1 w2 : World} {bh : Nat} {vl : Value} {pa : Option Addr} {n ca : Nat} {vt : Value} {L : List (Th × Th)} {c q cap : Nat} {ys : List Value} (hs : Ste g0 w0 g w) (hH : HoldIn g w0 w bh vl pa n ca vt L c) (hb : Below w.heap.size w w1)
    (ho : w2.ownsRow w0.heap.size 43 1 (.slice (some ⟨q, 0, none⟩) (c + 1) cap) (c + 1) ys) (hg : w1.grownBy w2 vt.ownBlock) (hat : vt.ownBlock = some q ∨ q = w1.heap.size) :
    Ste g0 w0 g (w2.setCell ⟨bh, 2, none⟩ (.slice (some ⟨q, 0, none⟩) (c + 1) cap)) ∧ HoldIn g w0 (w2.setCell ⟨bh, 2, none⟩ (.slice (some ⟨q, 0, none⟩) (c + 1) cap)) bh vl pa n ca (.slice (some ⟨q, 0, none⟩) (c + 1) cap) L (c + 1) := by
  have hs1 : Ste g w g w1 := .below hs.inv hb
  have h1 := hH.ste hs1
  obtain ⟨xs, h2, hL⟩ := h1.left
  obtain ⟨zs, h3⟩ := h1.types
  have hs2 : Ste g0 w0 g w2 := (hs.trans hs1).grown hg fun b hb => ⟨(ownsRow_blk h3 hb).1, h1.tmy b hb⟩
  have hbl : ∀ b cs (T : TypeId), Blk w1 b cs T → T ≠ 43 → Blk w2 b cs T := fun b cs T hB hT => hB.of_eq (hg.block b hB.lt fun e => by
    obtain ⟨_, cur, hc⟩ := ownsRow_blk h3 e.symm
    exact hB.ne hc hT rfl)
  have hB := hbl _ _ _ h1.blk (by decide)
  have hqb : q ≠ bh := by
    obtain ⟨_, cur, hc⟩ := ownsRow_blk ho (b := q) rfl
    exact hc.ne hB (by decide)
  have hmq : Own1 g q := by
    rcases hat with e | e
    · exact h1.tmy q e
    · exact ⟨hs1.inv.l_new (by omega), hs1.inv.o_new (by omega)⟩
  refine ⟨hs2.setCell h1.lo h1.my.1 h1.my.2 _, h1.lo, h1.my, hB.set32 _, ⟨xs, ownsRow_keep h2 fun b hb => ?_, hL⟩, h1.lmy, ⟨ys, ownsRow_keep ho fun b hb => ?_⟩, fun b hb => ?_⟩
  · obtain ⟨_, cur, hc⟩ := ownsRow_blk h2 hb
    have hc2 := hbl _ _ _ hc (by decide)
    rw [Below.heap_setCell _ _ _ _ (show b ≠ bh from hc2.ne hB (by decide)), show w2.heap[b]? = w1.heap[b]? from hc2.trans hc.symm]
  · obtain rfl : q = b := by simpa [Value.ownBlock] using hb
    exact Below.heap_setCell _ _ _ _ hqb
  · obtain rfl : q = b := by simpa [Value.ownBlock] using hb
    exact hmq

set_option maxHeartbeats 4000000 in
theorem bind_any (bh qa n : Nat) (L : List (Th × Th)) (c : Nat) (g0 g : Gh) (w0 w : World) (hs : Ste g0 w0 g w) (hH : HoldAt g w0 w bh n L c) (hn : n ≤ 1000000) (hc : c ≤ 1000000) :
    Calls Tryz.prog 187 #[ptr bh, ptr qa] w fun e w' => ∃ g' q, e = .returned (ptr q) ∧ Ste g0 w0 g' w' ∧ (∀ b t, g.l b = some t → g'.l b = some t) ∧ (∀ b v, g.v b = some v → g'.v b = some v) ∧ HoldAt g' w0 w' bh n L (c + 1) ∧ g'.l q = some (.val (free ((n + c : Nat) : Int))) := by
  obtain ⟨vl, pa, ca, vt, hH⟩ := hH
  have hb1 : Below w.heap.size w (w.alloc (.cells #[.pointer (some ⟨qa, 0, none⟩)] 43)) := (Below.refl _ w).alloc (Nat.le_refl _) _
  have h1 := hH.ste (.below hs.inv hb1)
  obtain ⟨xs, h2⟩ := h1.types
  obtain ⟨q, cap, w2, hr, ho, hg, hat, hlt⟩ := append_lat _ w0.heap.size vt c xs h2 w.heap.size 1 _ (Blk.new w _ _) rfl hc (by have := hs.keep.size; have := hb1.size; omega) 65
  have hp := hold_types hs hH hb1 ho hg hat
  have HR := (show Hid _ from hr)
  obtain ⟨_, _, c2, _, _, f2⟩ := h1.blk.three
  have hB2 : Blk w2 bh #[vl, .slice pa n ca, vt] 224 := h1.blk.of_eq (hg.block bh h1.blk.lt fun e => by
    obtain ⟨_, cur, hc⟩ := ownsRow_blk h2 e.symm
    exact h1.blk.ne hc (by decide) rfl)
  obtain ⟨_, _, d2, _, _, k2⟩ := hB2.three
  obtain ⟨_, _, e2, _, _, j2⟩ := hH.blk.three
  have hd := Ste.drew hp.1.inv
  have HC : ∀ m, Calls Tryz.prog 49 #[.int .i64 m] (w2.setCell ⟨bh, 2, none⟩ (.slice (some ⟨q, 0, none⟩) (c + 1) cap)).drew (LatP g (w2.setCell ⟨bh, 2, none⟩ (.slice (some ⟨q, 0, none⟩) (c + 1) cap)).drew (.val (free m))) := fun m => free_any m g _ hd.inv
  obtain ⟨_, s1, s2, _, _, _⟩ := hp.2.blk.three
  have HP : Hid (Ste g0 w0 g (w2.setCell ⟨bh, 2, none⟩ (.slice (some ⟨q, 0, none⟩) (c + 1) cap)).drew ∧ HoldIn g w0 (w2.setCell ⟨bh, 2, none⟩ (.slice (some ⟨q, 0, none⟩) (c + 1) cap)).drew bh vl pa n ca (.slice (some ⟨q, 0, none⟩) (c + 1) cap) L (c + 1)) := ⟨hp.1.trans hd, hp.2.ste hd⟩
  clear hp hr hb1 h1 h2 ho hg hat hlt hB2 hH hs hd
  unfold ptr at *
  go_enter Tryz.func187, Tryz.ntmps187
  go_wp2_with (first | (at_builtin; refine wpList_app_run rfl _ _ 65 65 rfl _ _ _ rfl rfl HR.out ?_))
  go_region_held3 (fun w' => w'.cell? ⟨bh, 1, none⟩ = some (.slice pa n ca) ∧ w'.cell? ⟨bh, 2, none⟩ = some (.slice (some ⟨q, 0, none⟩) (c + 1) cap)) (go_keep)
    (first
      | (go_at_call 49; refine (HC _).mono ?_; rintro e w3 ⟨g3, b3, rfl, hs4, hl4⟩; have h5 := HP.out.2.ste hs4; obtain ⟨_, r1, r2, _, _, _⟩ := h5.blk.three; have HT : Hid (Ste g0 w0 g3 w3 ∧ (∀ b t, g.l b = some t → g3.l b = some t) ∧ (∀ b v, g.v b = some v → g3.v b = some v) ∧ HoldAt g3 w0 w3 bh n L (c + 1)) := ⟨HP.out.1.trans hs4, hs4.le.l, hs4.le.v, _, _, _, _, h5⟩; have HL4 := (show Hid _ from hl4); clear h5 hs4 hl4; unfold ptr))
  go_wp2_with fail
  refine bodyPost_ret (v := .pointer (some ⟨b3, 0, none⟩)) (by simp [results, Tryz.results187, go_sem]) rfl ⟨g3, b3, rfl, HT.out.1, HT.out.2.1, HT.out.2.2.1, HT.out.2.2.2, HL4.out.trans (by rw [wrapI ((n : Int) + ((c : Int) + 1)) (by omega) (by omega), wrapI _ (by omega) (by omega)]; congr 3; omega)⟩
end Go.Proofs.YthfjmcomhccbaaaGreatDoor
