/-
  What package canon writes, as it lies in memory: what is written, and what is still to be.
-/
/-
  Contracts of package canon: next.
-/
/-
  Contracts of package canon: a number, as it is written; what is written of pairs.
-/
import Derived.Test.YthfjmcomhccbaaaGreatDoorC0m
import Derived.Test.YthfjmcomhccbaaaGreatDoorT4m
import Derived.Lib.AppendStr
import Derived.Deep.RegionLaw
import Derived.Deep.LoopGhost
import Derived.Test.YthfjmcomhccbaaaGreatDoorBK12m
import Derived.Test.YthfjmcomhccbaaaGreatDoorC3
import Derived.Test.YthfjmcomhccbaaaGreatDoorMem2m
namespace Go.Proofs.YthfjmcomhccbaaaGreatDoor
open Go.RowKit Tmx Evx
set_option maxRecDepth 60000

/-- What is still to be written: a text, or a value, and its type. -/
abbrev Itm := List UInt8 ⊕ (Th × Th)
def ItmIs (g : Gh) (x y z : Value) : Itm → Prop
  | .inl b => x = .string ⟨b.toArray⟩ ∧ y = .pointer none ∧ z = .pointer none
  | .inr t => x = .string ⟨#[]⟩ ∧ PL g y t.1 ∧ PL g z t.2
def PartsIs (g : Gh) : List Value → List Itm → Prop
  | xs, [] => xs = []
  | xs, i :: r => ∃ x y z ys, xs = x :: y :: z :: ys ∧ ItmIs g x y z i ∧ PartsIs g ys r
theorem ItmIs.mono {g g' : Gh} (h : ∀ b t, g.l b = some t → g'.l b = some t) {x y z : Value} : ∀ {i : Itm}, ItmIs g x y z i → ItmIs g' x y z i
  | .inl _, e => e
  | .inr _, ⟨e, ⟨p, e1, h1⟩, ⟨q, e2, h2⟩⟩ => ⟨e, ⟨p, e1, h _ _ h1⟩, ⟨q, e2, h _ _ h2⟩⟩
theorem ItmIs.one {g : Gh} {x y z : Value} : ∀ {i : Itm}, ItmIs g x y z i → x.oneCell' = true ∧ y.oneCell' = true ∧ z.oneCell' = true
  | .inl _, ⟨h1, h2, h3⟩ => by subst h1; subst h2; subst h3; exact ⟨rfl, rfl, rfl⟩
  | .inr _, ⟨h1, ⟨p, h2, _⟩, ⟨q, h3, _⟩⟩ => by subst h1; subst h2; subst h3; exact ⟨rfl, rfl, rfl⟩
theorem PartsIs.mono {g g' : Gh} (h : ∀ b t, g.l b = some t → g'.l b = some t) : ∀ {L : List Itm} {xs : List Value}, PartsIs g xs L → PartsIs g' xs L
  | [], _, e => e
  | _ :: _, _, ⟨x, y, z, ys, e, h1, hr⟩ => ⟨x, y, z, ys, e, h1.mono h, hr.mono h⟩
theorem PartsIs.push {g : Gh} {x y z : Value} {i : Itm} (hi : ItmIs g x y z i) : ∀ {L : List Itm} {xs : List Value}, PartsIs g xs L → PartsIs g (xs ++ [x, y, z]) (L ++ [i])
  | [], _, e => by subst e; exact ⟨x, y, z, [], rfl, hi, rfl⟩
  | _ :: _, _, ⟨x', y', z', ys, e, h1, hr⟩ => by subst e; exact ⟨x', y', z', _, rfl, h1, hr.push hi⟩
theorem PartsIs.last {g : Gh} {i : Itm} : ∀ {L : List Itm} {xs : List Value}, PartsIs g xs (L ++ [i]) → ∃ ys x y z, xs = ys ++ [x, y, z] ∧ ItmIs g x y z i ∧ PartsIs g ys L
  | [], _, ⟨x, y, z, ys, e, h1, h2⟩ => ⟨[], x, y, z, by rw [e, (show ys = [] from h2)]; rfl, h1, rfl⟩
  | _ :: _, _, ⟨x', y', z', ys, e, h1, hr⟩ => by
    obtain ⟨zs, x, y, z, e', h3, h4⟩ := hr.last
    exact ⟨x' :: y' :: z' :: zs, x, y, z, by rw [e, e']; rfl, h3, x', y', z', zs, rfl, h1, h4⟩
theorem PartsIs.at {g : Gh} : ∀ {L : List Itm} {xs : List Value} {j : Nat} {i : Itm}, PartsIs g xs L → L[j]? = some i → ∃ x y z, xs[j * 3]? = some x ∧ xs[j * 3 + 1]? = some y ∧ xs[j * 3 + 2]? = some z ∧ ItmIs g x y z i
  | [], _, j, _, _, h => by simp at h
  | _ :: _, _, 0, _, ⟨x, y, z, ys, e, h1, _⟩, h => by
    subst e
    simp at h
    subst h
    exact ⟨x, y, z, rfl, rfl, rfl, h1⟩
  | _ :: _, _, j + 1, _, ⟨x', y', z', ys, e, _, hr⟩, h => by
    subst e
    obtain ⟨x, y, z, e1, e2, e3, h4⟩ := hr.at (j := j) (by simpa using h)
    refine ⟨x, y, z, ?_, ?_, ?_, h4⟩
    · rw [show (j + 1) * 3 = j * 3 + 1 + 1 + 1 by omega]; simpa using e1
    · rw [show (j + 1) * 3 + 1 = (j * 3 + 1) + 1 + 1 + 1 by omega]; simpa using e2
    · rw [show (j + 1) * 3 + 2 = (j * 3 + 2) + 1 + 1 + 1 by omega]; simpa using e3
theorem PartsIs.length {g : Gh} : ∀ {L : List Itm} {xs : List Value}, PartsIs g xs L → xs.length = L.length * 3
  | [], _, e => by rw [(show _ = [] from e)]; rfl
  | _ :: _, _, ⟨_, _, _, _, e, _, hr⟩ => by subst e; have := hr.length; simp; omega

theorem uPart : Tryz.prog.underlying 51 = some (.slice 56) := by kernel_rfl
theorem iPart : (Tryz.prog.info? 56).map (fun i => (i.zero, i.size, i.bytes)) = some (some (.agg #[.string ⟨#[]⟩, .pointer none, .pointer none]), 3, 32) := by kernel_rfl
theorem append_part (w : World) (lo : Nat) (v : Value) (n : Nat) (xs : List Value) (h : w.ownsRow lo 56 3 v n xs) (B c : Nat) (x y z : Value) (hB : Blk w B #[x, y, z] 56)
    (h1 : x.oneCell' = true ∧ y.oneCell' = true ∧ z.oneCell' = true) (hn : n ≤ 1000000) (hlo : lo ≤ w.heap.size) (ty : TypeId) :
    ∃ g cap w', (Builtin.append_ #[51, 51] ty #[v, .slice (some ⟨B, 0, none⟩) 1 c]).run Tryz.prog w = .ok (.slice (some ⟨g, 0, none⟩) (n + 1) cap) w' ∧
      w'.ownsRow lo 56 3 (.slice (some ⟨g, 0, none⟩) (n + 1) cap) (n + 1) (xs ++ [x, y, z]) ∧ w.grownBy w' v.ownBlock ∧ (v.ownBlock = some g ∨ g = w.heap.size) ∧ g < w'.heap.size := by
  obtain ⟨i, hi, he⟩ := Option.map_eq_some_iff.1 iPart
  simp only [Prod.mk.injEq] at he
  obtain ⟨hz, hs, hb⟩ := he
  exact run_append_lies (P := Tryz.prog) w 51 ty lo 56 i _ 3 32 uPart hi hz hs hb rfl (by decide) v n xs h ⟨B, 0, none⟩ 1 c [x, y, z] rfl
    (World.news_of_block hB) (by simp [h1]) (by decide) (by simp only [maxLen]; omega) (by omega) hlo w.heap.size rfl

/-- A text's bytes are appended to a list of bytes of one's own: where that lies then. -/
theorem append_str (w : World) (lo : Nat) (v : Value) (l s : List UInt8) (hA : BytesIn lo w v l) (hlen : l.length + s.length ≤ 1000000) (hlo : lo ≤ w.heap.size) (ty : TypeId) :
    ∃ v' w', (Builtin.append_ #[50, 9] ty #[v, .string ⟨s.toArray⟩]).run Tryz.prog w = .ok v' w' ∧ BytesIn lo w' v' (l ++ s) ∧ w.grownBy w' v.ownBlock ∧ (∀ g, v'.ownBlock = some g → v.ownBlock = some g ∨ w.heap.size ≤ g) := by
  obtain ⟨i, hi, he⟩ := Option.map_eq_some_iff.1 i5
  simp only [Prod.mk.injEq] at he
  obtain ⟨hz, hs, hb⟩ := he
  have hsz : (⟨s.toArray⟩ : ByteArray).size = s.length := by simp [ByteArray.size]
  have hsc : Lib.strCells ⟨s.toArray⟩ = s.map bv := by simp [Lib.strCells, bv]
  have gen : ∀ lo', lo' ≤ w.heap.size → BytesIn lo' w v l → ∃ v' w', (Builtin.append_ #[50, 9] ty #[v, .string ⟨s.toArray⟩]).run Tryz.prog w = .ok v' w' ∧ w'.ownsRow lo' 5 1 v' (l.length + s.length) (l.map bv ++ s.map bv) ∧ w.grownBy w' v.ownBlock := fun lo' hl h => by
    obtain ⟨v', w', h1, h2, h3, _⟩ := Lib.run_append_own_string (P := Tryz.prog) w lo' 50 9 ty 5 i u39 gu9 hi hz hs hb v l.length _ h ⟨s.toArray⟩ (by rw [hsz]; unfold maxLen; omega) (by rw [hsz]; omega) hl
    rw [hsz, hsc] at h2
    exact ⟨v', w', h1, h2, h3⟩
  obtain ⟨v', w', h1, h2, h3⟩ := gen lo hlo hA
  refine ⟨v', w', h1, ?_, h3, fun g hg => ?_⟩
  · unfold BytesIn
    rw [List.length_append, List.map_append]
    exact h2
  · obtain ⟨hl, h0⟩ := hA
    rcases h0 with ⟨rfl, h0⟩ | ⟨q, cap, cur, rfl, hq, hh, hn, hm, hsz2, ht⟩
    · right
      obtain ⟨v2, w2, k1, k2, _⟩ := gen w.heap.size (Nat.le_refl _) ⟨hl, .inl ⟨rfl, h0⟩⟩
      obtain ⟨rfl, _⟩ := Result.ok.inj (h1.symm.trans k1)
      exact (k2.lt g hg).1
    · by_cases hf : l.length + s.length ≤ cap
      · left
        have := Lib.run_append_room_string (P := Tryz.prog) w 50 9 ty 5 i u39 gu9 hi hs q l.length cap cur hh ⟨s.toArray⟩ (by rw [hsz]; exact hf) (by rw [hsz]; omega)
        obtain ⟨rfl, _⟩ := Result.ok.inj (h1.symm.trans this)
        simpa [Value.ownBlock] using hg
      · right
        have hcell : ∀ j v, (l.map bv)[j]? = some v → w.cell? ((⟨q, 0, none⟩ : Addr).add j) = some v := fun j v hj => by
          have hjl : j < l.length := by
            obtain ⟨hlt, _⟩ := List.getElem?_eq_some_iff.1 hj
            simpa using hlt
          have hadd : (⟨q, 0, none⟩ : Addr).add j = ⟨q, j, none⟩ := by unfold Addr.add; split <;> simp_all
          rw [hadd, cell_of_row w q j cur 5 (0, 0) hh]
          have : (cur.toList.take (l.length * 1))[j]? = (l.map bv)[j]? := by rw [ht]
          rw [List.getElem?_take, if_pos (by omega), hj] at this
          simpa using this
        have hfit : Builtin.nextslicecap (l.length + (⟨s.toArray⟩ : ByteArray).size) cap * i.bytes ≤ 281474976710656 := by
          rw [hb, hsz]
          exact growslice_fits (by omega) (by omega)
        have := Lib.run_append_grow_string (P := Tryz.prog) w 50 9 ty 5 i _ u39 gu9 hi hz ⟨q, 0, none⟩ l.length cap (l.map bv) (by simp [hs]) hcell ⟨s.toArray⟩ (by rw [hsz]; omega) (by rw [hsz]; omega) hfit
        obtain ⟨rfl, _⟩ := Result.ok.inj (h1.symm.trans this)
        have : w.heap.size = g := by simpa [Value.ownBlock] using hg
        omega

/-- The writer: what is written, and what is left, the last one first. -/
structure ShIn (g : Gh) (w0 w : World) (bs : Nat) (vo vl : Value) (out : List UInt8) (L : List Itm) : Prop where
  lo : w0.heap.size ≤ bs
  my : Own1 g bs
  blk : Blk w bs #[vo, vl] 53
  out : BytesIn w0.heap.size w vo out
  omy : ∀ b, vo.ownBlock = some b → Own1 g b
  left : ∃ xs, w.ownsRow w0.heap.size 56 3 vl L.length xs ∧ PartsIs g xs L
  lmy : ∀ b, vl.ownBlock = some b → Own1 g b
def ShAt (g : Gh) (w0 w : World) (bs : Nat) (out : List UInt8) (L : List Itm) : Prop := ∃ vo vl, ShIn g w0 w bs vo vl out L
theorem ShIn.ste {g g' : Gh} {w0 w w' : World} {bs : Nat} {vo vl : Value} {out : List UInt8} {L : List Itm} (h : ShIn g w0 w bs vo vl out L) (hs : Ste g w g' w') : ShIn g' w0 w' bs vo vl out L := by
  obtain ⟨xs, h1, h2⟩ := h.left
  have k := h.my.ste h.blk.lt hs
  have kl : ∀ b, vl.ownBlock = some b → Own1 g' b ∧ w'.heap[b]? = w.heap[b]? := fun b hb => (h.lmy b hb).ste (let ⟨_, _, q⟩ := ownsRow_blk h1 hb; q.lt) hs
  have ko : ∀ b, vo.ownBlock = some b → Own1 g' b ∧ w'.heap[b]? = w.heap[b]? := fun b hb => (h.omy b hb).ste (let ⟨_, _, q⟩ := ownsRow_blk h.out hb; q.lt) hs
  exact ⟨h.lo, k.1, h.blk.of_eq k.2, ownsRow_keep h.out fun b hb => (ko b hb).2, fun b hb => (ko b hb).1, ⟨xs, ownsRow_keep h1 fun b hb => (kl b hb).2, h2.mono hs.le.l⟩, fun b hb => (kl b hb).1⟩
theorem ShAt.ste {g g' : Gh} {w0 w w' : World} {bs : Nat} {out : List UInt8} {L : List Itm} (h : ShAt g w0 w bs out L) (hs : Ste g w g' w') : ShAt g' w0 w' bs out L :=
  let ⟨vo, vl, h⟩ := h
  ⟨vo, vl, h.ste hs⟩
theorem Blk.set20 {w : World} {b : Nat} {x y : Value} {T : TypeId} (h : Blk w b #[x, y] T) (x' : Value) : Blk (w.setCell ⟨b, 0, none⟩ x') b #[x', y] T := by
  unfold Blk at *
  simp [World.setCell, Array.getElem?_modify, h]
theorem Blk.set21 {w : World} {b : Nat} {x y : Value} {T : TypeId} (h : Blk w b #[x, y] T) (y' : Value) : Blk (w.setCell ⟨b, 1, none⟩ y') b #[x, y'] T := by
  unfold Blk at *
  simp [World.setCell, Array.getElem?_modify, h]

/-- What a function of the writer does to it. -/
def ShP (g0 : Gh) (w0 : World) (g : Gh) (bs : Nat) (out : List UInt8) (L : List Itm) (w' : World) : Prop := ∃ g', Ste g0 w0 g' w' ∧ (∀ b t, g.l b = some t → g'.l b = some t) ∧ (∀ b v, g.v b = some v → g'.v b = some v) ∧ ShAt g' w0 w' bs out L

/-- Behind the append, and the store, of what is left. -/
theorem sh_left {g0 g : Gh} {w0 w w1 w2 : World} {bs : Nat} {vo vl : Value} {out : List UInt8} {L L' : List Itm} {q cap : Nat} {ys : List Value} (hs : Ste g0 w0 g w) (hH : ShIn g w0 w bs vo vl out L) (hb : Below w.heap.size w w1)
    (ho : w2.ownsRow w0.heap.size 56 3 (.slice (some ⟨q, 0, none⟩) L'.length cap) L'.length ys) (hL : PartsIs g ys L') (hg : w1.grownBy w2 vl.ownBlock) (hat : vl.ownBlock = some q ∨ q = w1.heap.size) :
    Ste g0 w0 g (w2.setCell ⟨bs, 1, none⟩ (.slice (some ⟨q, 0, none⟩) L'.length cap)) ∧ ShIn g w0 (w2.setCell ⟨bs, 1, none⟩ (.slice (some ⟨q, 0, none⟩) L'.length cap)) bs vo (.slice (some ⟨q, 0, none⟩) L'.length cap) out L' := by
  have hs1 : Ste g w g w1 := .below hs.inv hb
  have h1 := hH.ste hs1
  obtain ⟨xs, h2, _⟩ := h1.left
  have hs2 : Ste g0 w0 g w2 := (hs.trans hs1).grown hg fun b hb => ⟨(ownsRow_blk h2 hb).1, h1.lmy b hb⟩
  have hbl : ∀ b cs (T : TypeId), Blk w1 b cs T → T ≠ 56 → Blk w2 b cs T := fun b cs T hB hT => hB.of_eq (hg.block b hB.lt fun e => by
    obtain ⟨_, cur, hc⟩ := ownsRow_blk h2 e.symm
    exact hB.ne hc hT rfl)
  have hB := hbl _ _ _ h1.blk (by decide)
  have hqb : q ≠ bs := by
    obtain ⟨_, cur, hc⟩ := ownsRow_blk ho (b := q) rfl
    exact hc.ne hB (by decide)
  have hmq : Own1 g q := by
    rcases hat with e | e
    · exact h1.lmy q e
    · exact ⟨hs1.inv.l_new (by omega), hs1.inv.o_new (by omega)⟩
  refine ⟨hs2.setCell h1.lo h1.my.1 h1.my.2 _, h1.lo, h1.my, hB.set21 _, ownsRow_keep h1.out fun b hb => ?_, h1.omy, ⟨ys, ownsRow_keep ho fun b hb => ?_, hL⟩, fun b hb => ?_⟩
  · obtain ⟨_, cur, hc⟩ := ownsRow_blk h1.out hb
    have hc2 := hbl _ _ _ hc (by decide)
    rw [Below.heap_setCell _ _ _ _ (show b ≠ bs from hc2.ne hB (by decide)), show w2.heap[b]? = w1.heap[b]? from hc2.trans hc.symm]
  · obtain rfl : q = b := by simpa [Value.ownBlock] using hb
    exact Below.heap_setCell _ _ _ _ hqb
  · obtain rfl : q = b := by simpa [Value.ownBlock] using hb
    exact hmq

/-- Behind the append, and the store, of what is written. -/
theorem sh_out {g0 g : Gh} {w0 w w1 w2 : World} {bs : Nat} {vo vo' vl : Value} {out out' : List UInt8} {L : List Itm} (hs : Ste g0 w0 g w) (hH : ShIn g w0 w bs vo vl out L) (hb : Below w.heap.size w w1)
    (ho : BytesIn w0.heap.size w2 vo' out') (hg : w1.grownBy w2 vo.ownBlock) (hat : ∀ q, vo'.ownBlock = some q → vo.ownBlock = some q ∨ w1.heap.size ≤ q) :
    Ste g0 w0 g (w2.setCell ⟨bs, 0, none⟩ vo') ∧ ShIn g w0 (w2.setCell ⟨bs, 0, none⟩ vo') bs vo' vl out' L := by
  have hs1 : Ste g w g w1 := .below hs.inv hb
  have h1 := hH.ste hs1
  obtain ⟨xs, h2, hL⟩ := h1.left
  have hs2 : Ste g0 w0 g w2 := (hs.trans hs1).grown hg fun b hb => ⟨(ownsRow_blk h1.out hb).1, h1.omy b hb⟩
  have hbl : ∀ b cs (T : TypeId), Blk w1 b cs T → T ≠ 5 → Blk w2 b cs T := fun b cs T hB hT => hB.of_eq (hg.block b hB.lt fun e => by
    obtain ⟨_, cur, hc⟩ := ownsRow_blk h1.out e.symm
    exact hB.ne hc hT rfl)
  have hB := hbl _ _ _ h1.blk (by decide)
  refine ⟨hs2.setCell h1.lo h1.my.1 h1.my.2 _, h1.lo, h1.my, hB.set20 _, ownsRow_keep ho fun b hb => ?_, fun b hb => ?_, ⟨xs, ownsRow_keep h2 fun b hb => ?_, hL⟩, h1.lmy⟩
  · obtain ⟨_, cur, hc⟩ := ownsRow_blk ho hb
    exact Below.heap_setCell _ _ _ _ (show b ≠ bs from hc.ne hB (by decide))
  · rcases hat b hb with e | e
    · exact h1.omy b e
    · exact ⟨hs1.inv.l_new e, hs1.inv.o_new e⟩
  · obtain ⟨_, cur, hc⟩ := ownsRow_blk h2 hb
    have hc2 := hbl _ _ _ hc (by decide)
    rw [Below.heap_setCell _ _ _ _ (show b ≠ bs from hc2.ne hB (by decide)), show w2.heap[b]? = w1.heap[b]? from hc2.trans hc.symm]
end Go.Proofs.YthfjmcomhccbaaaGreatDoor

namespace Go.Proofs.YthfjmcomhccbaaaGreatDoor
open Go.RowKit Tmx Evx
set_option maxRecDepth 60000

theorem rev_take_succ {α : Type} (l : List α) (j : Nat) (a : α) (h : l[l.length - 1 - j]? = some a) (hj : j < l.length) : l.reverse.take (j + 1) = l.reverse.take j ++ [a] := by
  rw [List.take_add_one]
  congr 1
  rw [List.getElem?_reverse hj, h]
  rfl

set_option maxHeartbeats 4000000 in
theorem next_any (bs B cap : Nat) (its : List Itm) (vs : List Value) (out : List UInt8) (L : List Itm) (vo vl : Value) (g0 g : Gh) (w0 w : World) (hs : Ste g0 w0 g w) (hH : ShIn g w0 w bs vo vl out L) (hB : Blk w B vs.toArray 56)
    (hne : vl.ownBlock ≠ some B) (hv : PartsIs g vs its) (hn : its.length ≤ 1000) (hL : L.length ≤ 100000) (hcap : its.length ≤ cap) :
    Calls Tryz.prog 16 #[ptr bs, .slice (some ⟨B, 0, none⟩) its.length cap] w fun e w' => e = .returned (.tuple #[]) ∧ ShP g0 w0 g bs out (L ++ its.reverse) w' := by
  obtain ⟨n, hln⟩ : ∃ n, its.length = n := ⟨_, rfl⟩
  have HV := (show Hid _ from And.intro hv (And.intro hln hL))
  have HS := (show Hid _ from And.intro hs (And.intro hH (And.intro hB hne)))
  rw [hln] at hn hcap ⊢
  unfold ptr
  clear hs hH hB hne hv hln hL
  go_enter Tryz.func16, Tryz.ntmps16
  go_wp2_with fail
  go_loopg [7] n (fun gg c wr => ∃ (vo1 vl1 : Value) (j : Nat), gg = n - j ∧ j ≤ n ∧ c = .int .i64 (j : Int) ∧ Hid (Ste g0 w0 g wr ∧ ShIn g w0 wr bs vo1 vl1 out (L ++ its.reverse.take j) ∧ Blk wr B vs.toArray 56 ∧ vl1.ownBlock ≠ some B))
  case atStart => exact ⟨vo, vl, 0, rfl, Nat.zero_le _, rfl, HS.out.1, by simpa using HS.out.2.1, HS.out.2.2⟩
  case round =>
    obtain ⟨vo1, vl1, j, rfl, hj, rfl, h⟩ := hrel
    obtain ⟨hs, hI, hB, hne⟩ := h.out
    clear h HS
    by_cases hlt : j < n
    · obtain ⟨i, hi⟩ : ∃ i, its[n - 1 - j]? = some i := ⟨_, List.getElem?_eq_getElem (by rw [HV.out.2.1]; omega)⟩
      obtain ⟨x, y, z, e0, e1, e2, hx⟩ := HV.out.1.at hi
      have k0 : wr.cell? ⟨B, (n - 1 - j) * 3, none⟩ = some x := by rw [hB.cell]; simpa using e0
      have k1 : wr.cell? ⟨B, (n - 1 - j) * 3 + 1, none⟩ = some y := by rw [hB.cell]; simpa using e1
      have k2 : wr.cell? ⟨B, (n - 1 - j) * 3 + 2, none⟩ = some z := by rw [hB.cell]; simpa using e2
      obtain ⟨m, hm⟩ : ∃ m : Nat, n - 1 - j = m := ⟨_, rfl⟩
      rw [hm] at k0 k1 k2 hi
      have hw1 : IntKind.i64.wrap (IntKind.i64.wrap ((n : Int) - 1) - (j : Int)) = (m : Int) := by rw [wrapI ((n : Int) - 1) (by omega) (by omega), wrapI _ (by omega) (by omega)]; omega
      have hmn : (m : Int) < n := by omega
      have hm0 : (0 : Int) ≤ m := by omega
      obtain ⟨xs, ho, hP⟩ := hI.left
      have hb1 : Below wr.heap.size wr (wr.drew.alloc (.cells #[x, y, z] 56)) := (Below.refl _ wr).drew.alloc (Nat.le_refl _) _
      have hlo : w0.heap.size ≤ wr.heap.size := hs.keep.size
      have hll : (L ++ its.reverse.take j).length ≤ 1000000 := by
        rw [List.length_append, List.length_take]
        have := HV.out.2.2
        omega
      have h1 : ShIn g w0 (wr.drew.alloc (.cells #[x, y, z] 56)) bs vo1 vl1 out (L ++ its.reverse.take j) := hI.ste (.below hs.inv hb1)
      obtain ⟨xs1, ho1, hP1⟩ := h1.left
      obtain ⟨q, cap2, w2, hr, ho2, hg2, hat, hlt2⟩ := append_part _ w0.heap.size vl1 _ xs1 ho1 wr.heap.size 1 x y z (Blk.new wr.drew _ _) hx.one hll (by have := hb1.size; omega) 51
      have hp := sh_left (L' := (L ++ its.reverse.take j) ++ [i]) hs hI hb1 (by rw [List.length_append]; exact ho2) (hP1.push hx) hg2 hat
      have hB2 : Blk (w2.setCell ⟨bs, 1, none⟩ (.slice (some ⟨q, 0, none⟩) ((L ++ its.reverse.take j) ++ [i]).length cap2)) B vs.toArray 56 ∧ q ≠ B := by
        have hB1 : Blk (wr.drew.alloc (.cells #[x, y, z] 56)) B vs.toArray 56 := hB.below hb1
        have hBb : B ≠ bs := hB.ne hI.blk (by decide)
        refine ⟨?_, fun e => ?_⟩
        · have := hB1.of_eq (hg2.block B hB1.lt fun e => hne e.symm)
          exact this.setOther (x := ⟨bs, 1, none⟩) hBb _
        · rcases hat with h | h
          · exact hne (by rw [h, e])
          · have := hB1.lt
            have := hB.lt
            simp at h
            omega
      rw [List.length_append] at hp hB2
      simp only [List.length_cons, List.length_nil] at hp hB2
      obtain ⟨c0, c1, _, f1⟩ := hI.blk.two
      have a1 : (wr.alloc (.cells #[x, y, z] 56)).cell? ⟨bs, 1, none⟩ = some vl1 := h1.blk.two.2.1
      obtain ⟨d0, d1, _, fd1⟩ := (h1.blk.of_eq (w' := w2) (hg2.block bs h1.blk.lt fun e => by
        obtain ⟨_, cur, hc⟩ := ownsRow_blk ho1 e.symm
        exact h1.blk.ne hc (by decide) rfl)).two
      have hrev : its.reverse.take (j + 1) = its.reverse.take j ++ [i] := rev_take_succ its j i (by rw [HV.out.2.1, hm]; exact hi) (by rw [HV.out.2.1]; exact hlt)
      have HR := (show Hid _ from hr)
      have HF := (show Hid _ from And.intro hp (And.intro hB2 hrev))
      obtain ⟨lv, hlv⟩ : ∃ lv, (L ++ its.reverse.take j).length = lv := ⟨_, rfl⟩
      simp only [hlv] at HR HF
      have hBl := hB.lt
      have ffr : ∀ i, wr.frozen? ⟨B, i, none⟩ = false := hB.free
      clear hs hI hB hne hi hx ho hP hb1 hll h1 ho1 hP1 hr ho2 hg2 hat hlt2 hp hB2 hrev hlv e0 e1 e2
      go_wp2_with fail
      go_region_law (first
        | (refine step_unwanted rfl ?_)
        | (refine gstep_append_run rfl _ _ 51 51 rfl _ _ _ rfl rfl HR.out ?_))
      all_goals
        go_wp2_with fail
        go_roundg (n - (j + 1))
        case measure => omega
        case rel =>
          obtain ⟨hp, ⟨hB2, hqB⟩, hrev⟩ := HF.out
          refine ⟨vo1, .slice (some ⟨q, 0, none⟩) (lv + 1) cap2, j + 1, rfl, by omega, by push_cast; rfl, hp.1, ?_, hB2, fun e => hqB (by simpa [Value.ownBlock] using e)⟩
          rw [hrev, ← List.append_assoc]
          exact hp.2
    · obtain rfl : j = n := by omega
      have HF := (show Hid _ from And.intro hs hI)
      clear hs hI hB hne
      go_wp2_with fail
      refine bodyPost_end (v := .tuple #[]) (by simp [results, Tryz.results16, go_sem]) rfl ⟨rfl, g, HF.out.1, fun _ _ e => e, fun _ _ e => e, vo1, vl1, by
        have := HF.out.2
        rw [List.take_of_length_le (by rw [List.length_reverse, HV.out.2.1]; exact Nat.le_refl _)] at this
        exact this⟩
end Go.Proofs.YthfjmcomhccbaaaGreatDoor

namespace Go.Proofs.YthfjmcomhccbaaaGreatDoor
open Go.Shelf Go.RowKit Tmx Evx
set_option maxRecDepth 60000

theorem itoa_small (u : Nat) : Lib.itoa (u : Int) = Lib.decDigits u := Lib.itoa_nonneg u

set_option maxHeartbeats 4000000 in
/-- A number below a hundred is appended. -/
theorem appendInt_any (u : Nat) (hu : u < 100) (lo : Nat) (v : Value) (l : List UInt8) (w : World) (hA : BytesIn lo w v l) (hlen : l.length ≤ 100000) (hlo : lo ≤ w.heap.size) :
    Calls Tryz.prog 34 #[v, .int .i64 (u : Int), .int .i64 10] w fun e w' => ∃ v', e = .returned v' ∧ BytesIn lo w' v' (l ++ Lib.itoa (u : Int)) ∧ w.grownBy w' v.ownBlock ∧ (∀ g, v'.ownBlock = some g → v.ownBlock = some g ∨ w.heap.size ≤ g) := by
  have hdl : (Lib.decDigits u).length ≤ 20 := by
    rw [Lib.decDigits_length]
    by_cases h10 : u < 10
    · rw [Lib.nDigits_small h10]; omega
    · rw [Lib.nDigits_big h10, Lib.nDigits_small (show u / 10 < 10 by omega)]; omega
  obtain ⟨v', w', hr, h1, h2, h3⟩ := append_str w lo v l (Lib.decDigits u) hA (by omega) hlo 50
  rw [itoa_small]
  have HR := (show Hid _ from hr)
  have HF := (show Hid _ from And.intro h1 (And.intro h2 h3))
  have HS : Calls Tryz.prog 87 #[.int .i64 (u : Int)] w fun e w' => e = .returned (.string ⟨(Lib.decDigits u).toArray⟩) ∧ w' = w := Any.internal_strconv_small { Tryz.laysItoa with } u hu w
  clear hr h1 h2 h3 hA
  have HU : Calls Tryz.prog 70 #[v, .int .u64 (u : Int), .int .i64 10] w fun e w2 => e = .returned v' ∧ w2 = w' := by
    have hi : (u : Int) < 100 := by omega
    go_enter Tryz.func70, Tryz.ntmps70
    go_wp2_with fail
    refine HS.mono ?_
    rintro e w2 ⟨rfl, rfl⟩
    go_wp2_with (first | (at_builtin; refine wpList_app_run rfl _ _ 50 9 rfl _ _ _ rfl rfl HR.out ?_))
    first
      | (go_ret; exact ⟨rfl, rfl⟩)
      | (go_ret2; exact ⟨rfl, rfl⟩)
  have HI : Calls Tryz.prog 53 #[v, .int .i64 (u : Int), .int .i64 10] w fun e w2 => e = .returned v' ∧ w2 = w' := by
    have hi : (u : Int) < 100 := by omega
    have h0 : 0 ≤ (u : Int) := by omega
    go_enter Tryz.func53, Tryz.ntmps53
    go_wp2_with fail
    refine HU.mono ?_
    rintro e w2 ⟨rfl, rfl⟩
    go_wp2_with fail
    first
      | (go_ret; exact ⟨rfl, rfl⟩)
      | (go_ret2; exact ⟨rfl, rfl⟩)
  go_enter Tryz.func34, Tryz.ntmps34
  go_wp2_with fail
  refine HI.mono ?_
  rintro e w2 ⟨rfl, rfl⟩
  go_wp2_with fail
  first
    | (go_ret; exact ⟨v', rfl, HF.out⟩)
    | (go_ret2; exact ⟨v', rfl, HF.out⟩)

theorem rowOne {g : Gh} {w : World} {B bl : Nat} {t : Th} (hB : Blk w B #[.pointer (some ⟨bl, 0, none⟩)] 43) (hl : g.l bl = some t) : RowL g w (some ⟨B, 0, none⟩) [t] :=
  fun _ => ⟨B, _, rfl, hB, row1 hl⟩

set_option maxHeartbeats 8000000 in
theorem pair_any (bs bt qv : Nat) (v : V) (t a b : Th) (out : List UInt8) (L : List Itm) (g0 g : Gh) (w0 w : World) (hs : Ste g0 w0 g w) (hH : ShAt g w0 w bs out L) (hv : g.v qv = some v) (ht : g.l bt = some t)
    (ha : argV v 0 [] = some a) (hb : argV v 1 [.of (.mk 8 0 [.plain t])] = some b) (hL : L.length ≤ 100000) :
    Calls Tryz.prog 35 #[ptr bs, ptr bt, ptr qv] w fun e w' => e = .returned (.tuple #[]) ∧ ShP g0 w0 g bs out (L ++ [.inl [41], .inr (.of (.mk 9 0 [.plain t]), b), .inl [44, 32], .inr (.of (.mk 8 0 [.plain t]), a), .inl [40]]) w' := by
  have HS := (show Hid _ from And.intro hs (And.intro hH (And.intro hv (And.intro ht (And.intro ha (And.intro hb hL))))))
  unfold ptr at *
  have hA1 : Below w.heap.size w (w.alloc (.cells #[.pointer (some ⟨bt, 0, none⟩)] 43)) := (Below.refl _ _).alloc (Nat.le_refl _) _
  have hsA := Ste.below hs.inv hA1
  have HO : Calls Tryz.prog 54 #[.int .i64 8, .slice (some ⟨w.heap.size, 0, none⟩) 1 1] (w.alloc (.cells #[.pointer (some ⟨bt, 0, none⟩)] 43)) (LatP g (w.alloc (.cells #[.pointer (some ⟨bt, 0, none⟩)] 43)) (.of (.mk 8 0 [.plain t]))) :=
    of_any 8 (some ⟨w.heap.size, 0, none⟩) 1 [t] g _ hsA.inv (rowOne (Blk.new _ _ _) ht) (by simp)
  have HA1 := (show Hid _ from hsA)
  clear hA1 hsA hs hH hv ht ha hb hL
  go_enter Tryz.func35, Tryz.ntmps35
  go_wp2_with fail
  refine HO.mono ?_
  rintro e w2 ⟨g2, bf, rfl, hs2, hlf⟩
  have k2 := HA1.out.trans hs2
  have HX2 := (show Hid _ from And.intro k2 (And.intro hlf (And.intro (k2.le.l _ _ HS.out.2.2.2.1) (k2.le.v _ _ HS.out.2.2.1))))
  have hA2 : Below w2.heap.size w2 (w2.alloc (.cells #[.pointer (some ⟨bt, 0, none⟩)] 43)) := (Below.refl _ _).alloc (Nat.le_refl _) _
  have hsA := Ste.below hs2.inv hA2
  have HO2 : Calls Tryz.prog 54 #[.int .i64 9, .slice (some ⟨w2.heap.size, 0, none⟩) 1 1] (w2.alloc (.cells #[.pointer (some ⟨bt, 0, none⟩)] 43)) (LatP g2 (w2.alloc (.cells #[.pointer (some ⟨bt, 0, none⟩)] 43)) (.of (.mk 9 0 [.plain t]))) :=
    of_any 9 (some ⟨w2.heap.size, 0, none⟩) 1 [t] g2 _ hsA.inv (rowOne (Blk.new _ _ _) HX2.out.2.2.1) (by simp)
  have HA2 := (show Hid _ from hsA)
  unfold ptr
  clear hA2 hsA hs2 hlf k2 HO HA1
  go_wp2_with fail
  refine HO2.mono ?_
  rintro e w3 ⟨g3, bn, rfl, hs3, hln⟩
  have k3 := HA2.out.trans hs3
  have HX3 := (show Hid _ from And.intro (HX2.out.1.trans k3) (And.intro hln (And.intro (k3.le.l _ _ HX2.out.2.1) (k3.le.v _ _ HX2.out.2.2.2))))
  have HR : Calls Tryz.prog 22 #[.pointer (some ⟨qv, 0, none⟩), .int .i64 0, .slice none 0 0] w3 (LatP g3 w3 a) :=
    argV_any qv 0 v none 0 [] a g3 w3 hs3.inv HX3.out.2.2.2 (fun h => absurd h (by simp)) (by simp) HS.out.2.2.2.2.1
  unfold ptr
  clear HO2 HA2 hs3 hln k3 HX2
  go_wp2_with fail
  refine HR.mono ?_
  rintro e w4 ⟨g4, ba, rfl, hs4, hla⟩
  have HX4 := (show Hid _ from And.intro (HX3.out.1.trans hs4) (And.intro (hs4.le.l _ _ HX3.out.2.1) (And.intro (hs4.le.l _ _ HX3.out.2.2.1) (And.intro (hs4.le.v _ _ HX3.out.2.2.2) hla))))
  have hA4 : Below w4.heap.size w4 (w4.alloc (.cells #[.pointer (some ⟨bf, 0, none⟩)] 43)) := (Below.refl _ _).alloc (Nat.le_refl _) _
  have hsA := Ste.below hs4.inv hA4
  have HR2 : Calls Tryz.prog 22 #[.pointer (some ⟨qv, 0, none⟩), .int .i64 1, .slice (some ⟨w4.heap.size, 0, none⟩) 1 1] (w4.alloc (.cells #[.pointer (some ⟨bf, 0, none⟩)] 43)) (LatP g4 (w4.alloc (.cells #[.pointer (some ⟨bf, 0, none⟩)] 43)) b) :=
    argV_any qv 1 v (some ⟨w4.heap.size, 0, none⟩) 1 [.of (.mk 8 0 [.plain t])] b g4 _ hsA.inv HX4.out.2.2.2.1 (rowOne (Blk.new _ _ _) HX4.out.2.2.1) (by simp) HS.out.2.2.2.2.2.1
  have HA4 := (show Hid _ from hsA)
  unfold ptr
  clear HR hA4 hsA hs4 hla HX3
  go_wp2_with fail
  refine HR2.mono ?_
  rintro e w5 ⟨g5, bb, rfl, hs5, hlb⟩
  have k5 := HX4.out.1.trans (HA4.out.trans hs5)
  have k45 := HA4.out.trans hs5
  obtain ⟨vo, vl, hI⟩ := HS.out.2.1.ste k5
  obtain ⟨vs, hvs⟩ : ∃ vs : List Value, vs = [.string ⟨#[40]⟩, .pointer none, .pointer none, .string ⟨#[]⟩, .pointer (some ⟨bf, 0, none⟩), .pointer (some ⟨ba, 0, none⟩), .string ⟨#[44, 32]⟩, .pointer none, .pointer none, .string ⟨#[]⟩, .pointer (some ⟨bn, 0, none⟩), .pointer (some ⟨bb, 0, none⟩), .string ⟨#[41]⟩, .pointer none, .pointer none] := ⟨_, rfl⟩
  have hP : PartsIs g5 vs [.inl [40], .inr (.of (.mk 8 0 [.plain t]), a), .inl [44, 32], .inr (.of (.mk 9 0 [.plain t]), b), .inl [41]] := by
    subst hvs
    exact ⟨_, _, _, _, rfl, ⟨rfl, rfl, rfl⟩, _, _, _, _, rfl, ⟨rfl, ⟨bf, rfl, k45.le.l _ _ HX4.out.2.2.1⟩, ⟨ba, rfl, k45.le.l _ _ HX4.out.2.2.2.2⟩⟩, _, _, _, _, rfl, ⟨rfl, rfl, rfl⟩, _, _, _, _, rfl, ⟨rfl, ⟨bn, rfl, k45.le.l _ _ HX4.out.2.1⟩, ⟨bb, rfl, hlb⟩⟩, _, _, _, _, rfl, ⟨rfl, rfl, rfl⟩, rfl⟩
  have hA5 : Below w5.heap.size w5 (w5.alloc (.cells vs.toArray 56)) := (Below.refl _ _).alloc (Nat.le_refl _) _
  have hsA := Ste.below hs5.inv hA5
  have hne : vl.ownBlock ≠ some w5.heap.size := fun e => by
    obtain ⟨xs, ho, _⟩ := hI.left
    obtain ⟨_, cur, hc⟩ := ownsRow_blk ho e
    have := hc.lt
    omega
  have HN := next_any bs w5.heap.size 5 _ vs out L vo vl g0 g5 w0 (w5.alloc (.cells vs.toArray 56)) ((HS.out.1.trans k5).trans hsA) (hI.ste hsA) (Blk.new _ _ _) hne hP (by simp) HS.out.2.2.2.2.2.2 (by simp)
  have HE := (show Hid _ from k5)
  subst hvs
  unfold ptr at *
  clear hP hA5 hsA hne hI hs5 hlb k5 k45 HX4 HA4 HR2
  go_wp2_with fail
  refine HN.mono ?_
  rintro e w6 ⟨rfl, g6, hs6, hl6, hv6, hS6⟩
  have HQ := (show Hid _ from And.intro hs6 (And.intro hl6 (And.intro hv6 hS6)))
  clear hs6 hl6 hv6 hS6 HN
  go_wp2_with fail
  refine bodyPost_end (v := .tuple #[]) (by simp [results, Tryz.results35, go_sem]) rfl ⟨rfl, g6, HQ.out.1, fun _ _ e => HQ.out.2.1 _ _ (HE.out.le.l _ _ e), fun _ _ e => HQ.out.2.2.1 _ _ (HE.out.le.v _ _ e), HQ.out.2.2.2⟩
end Go.Proofs.YthfjmcomhccbaaaGreatDoor
