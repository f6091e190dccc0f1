/-
  Contracts: one, where types are held.
-/
/-
  Contracts: all, where types are held.
-/
/-
  Contracts: SameTypeValues.
-/
/-
  Contracts of package infer: a scope in memory; bind, leave.
-/
import Derived.Test.YthfjmcomhccbaaaGreatDoorC3
namespace Go.Proofs.YthfjmcomhccbaaaGreatDoor
open Go.RowKit Tmx Evx
set_option maxRecDepth 60000

set_option maxHeartbeats 4000000 in
theorem one_any (s bh qa qb n : Nat) (ta tb : Th) (L : List (Th × Th)) (c : Nat) (g0 g : Gh) (w0 w : World) (hs : Ste g0 w0 g w) (hH : HoldAt g w0 w bh n L c) (ha : g.l qa = some ta) (hb : g.l qb = some tb)
    (hL : L.length ≤ 900000) (hn : n ≤ 1000000) (hc : c ≤ 1000000) (r : Bool) (more : List (Th × Th)) (ts : List Th) (hr : asTypesV (ev s) (n + c) ta tb = some (r, more, ts)) :
    Calls Tryz.prog 174 #[ptr bh, .agg #[ptr qa, ptr qb, .pointer none]] w fun e w' => e = .returned (.bool r) ∧ HoldP g0 w0 g bh n (L ++ more) (c + ts.length) w' := by
  have hs1 : Ste g w g (w.alloc (.cells #[.pointer (some ⟨qa, 0, none⟩), .pointer (some ⟨qb, 0, none⟩), .pointer none] 236)) := .below hs.inv ((Below.refl _ w).alloc (Nat.le_refl _) _)
  have H := asTypes_any s bh qa qb n ta tb L c g0 g w0 _ (hs.trans hs1) (hH.ste hs1) ha hb hL hn hc r more ts hr
  unfold ptr at *
  clear hs hH ha hb hs1 hr
  go_enter Tryz.func174, Tryz.ntmps174
  go_wp2_with fail
  refine H.mono ?_
  rintro e w2 ⟨rfl, hP⟩
  have HP := (show Hid _ from hP)
  clear hP H
  go_wp2_with fail
  refine bodyPost_ret (v := .bool r) (by simp [results, Tryz.results174, go_sem]) rfl ⟨rfl, HP.out⟩

theorem HoldIn.form {g : Gh} {w0 w : World} {bh : Nat} {vl : Value} {pa : Option Addr} {n ca : Nat} {vt : Value} {L : List (Th × Th)} {c : Nat} (h : HoldIn g w0 w bh vl pa n ca vt L c) : ∃ p cap, vl = .slice p L.length cap := by
  obtain ⟨xs, ⟨_, h1⟩, _⟩ := h.left
  rcases h1 with ⟨e, h0⟩ | ⟨q, cap, _, e, _⟩
  · exact ⟨none, 0, by rw [e, h0]⟩
  · exact ⟨_, cap, e⟩
theorem row_last {w : World} {lo m : Nat} {v : Value} {xs ys : List Value} {x y z : Value} (h : w.ownsRow lo 236 3 v (m + 1) xs) (e : xs = ys ++ [x, y, z]) :
    ∃ q cap, v = .slice (some ⟨q, 0, none⟩) (m + 1) cap ∧ m + 1 ≤ cap ∧ w.cell? ⟨q, m * 3, none⟩ = some x ∧ w.cell? ⟨q, m * 3 + 1, none⟩ = some y ∧ w.cell? ⟨q, m * 3 + 2, none⟩ = some z ∧ w.ownsRow lo 236 3 (.slice (some ⟨q, 0, none⟩) m cap) m ys ∧ lo ≤ q := by
  obtain ⟨hl, h1⟩ := h
  have hy : ys.length = m * 3 := by rw [e, List.length_append] at hl; simp only [List.length_cons, List.length_nil] at hl; omega
  rcases h1 with ⟨_, h0⟩ | ⟨q, cap, cur, ev, hlo, hh, hn, hm, hz, ht⟩
  · omega
  · have hcell : ∀ j, j < 3 → w.cell? ⟨q, m * 3 + j, none⟩ = [x, y, z][j]? := fun j hj => by
      rw [cell_of_row w q _ cur 236 (0, 0) hh]
      have h2 : xs[m * 3 + j]? = cur.toList[m * 3 + j]? := by rw [← ht, List.getElem?_take, if_pos (by omega)]
      rw [← Array.getElem?_toList, ← h2, e, List.getElem?_append_right (by omega), hy, Nat.add_sub_cancel_left]
    refine ⟨q, cap, ev, hn, hcell 0 (by decide), hcell 1 (by decide), hcell 2 (by decide), ⟨hy, .inr ⟨q, cap, cur, rfl, hlo, hh, by omega, hm, hz, ?_⟩⟩, hlo⟩
    have h3 : (cur.toList.take ((m + 1) * 3)).take (m * 3) = ys := by rw [ht, e, List.take_append_of_le_length (by omega), List.take_of_length_le (by omega)]
    rw [List.take_take, Nat.min_eq_left (by omega)] at h3
    exact h3

/-- Behind the last one being taken off what is left. -/
theorem hold_cut {g0 g : Gh} {w0 w : World} {bh : Nat} {vl : Value} {pa : Option Addr} {n ca : Nat} {vt : Value} {L : List (Th × Th)} {a b : Th} {c : Nat} (hs : Ste g0 w0 g w) (hH : HoldIn g w0 w bh vl pa n ca vt (L ++ [(a, b)]) c) :
    ∃ q cap qa qb, vl = .slice (some ⟨q, 0, none⟩) (L.length + 1) cap ∧ L.length + 1 ≤ cap ∧ q ≠ bh ∧ g.l qa = some a ∧ g.l qb = some b ∧ w.cell? ⟨q, L.length * 3, none⟩ = some (.pointer (some ⟨qa, 0, none⟩)) ∧ w.cell? ⟨q, L.length * 3 + 1, none⟩ = some (.pointer (some ⟨qb, 0, none⟩)) ∧ w.cell? ⟨q, L.length * 3 + 2, none⟩ = some (.pointer none) ∧
      ∀ w1, Below w.heap.size w w1 → Ste g0 w0 g (w1.setCell ⟨bh, 0, none⟩ (.slice (some ⟨q, 0, none⟩) L.length cap)) ∧ HoldIn g w0 (w1.setCell ⟨bh, 0, none⟩ (.slice (some ⟨q, 0, none⟩) L.length cap)) bh (.slice (some ⟨q, 0, none⟩) L.length cap) pa n ca vt L c := by
  obtain ⟨xs, h1, h2⟩ := hH.left
  rw [List.length_append] at h1
  obtain ⟨ys, x, y, e, ⟨qa, rfl, ha⟩, ⟨qb, rfl, hb'⟩, h3⟩ := h2.last
  obtain ⟨q, cap, ev, hcap, c0, c1, c2, ho, hlo⟩ := row_last h1 e
  obtain ⟨_, cur, hq⟩ := ownsRow_blk ho (b := q) rfl
  have hqb : q ≠ bh := hq.ne hH.blk (by decide)
  have hqm : Own1 g q := hH.lmy q (by rw [ev]; rfl)
  refine ⟨q, cap, qa, qb, ev, hcap, hqb, ha, hb', c0, c1, c2, fun w1 hb => ?_⟩
  have hs1 : Ste g w g w1 := .below hs.inv hb
  have hI := hH.ste hs1
  obtain ⟨zs, ht⟩ := hI.types
  have hq1 : w1.heap[q]? = w.heap[q]? := hb.block _ hq.lt
  refine ⟨(hs.trans hs1).setCell hI.lo hI.my.1 hI.my.2 _, hI.lo, hI.my, hI.blk.set3 _, ⟨ys, ownsRow_keep ho fun b h => ?_, h3⟩, fun b h => ?_, ⟨zs, ownsRow_keep ht fun b h => ?_⟩, hI.tmy⟩
  · obtain rfl : q = b := by simpa [Value.ownBlock] using h
    rw [Below.heap_setCell _ _ _ _ hqb]
    exact hq1
  · obtain rfl : q = b := by simpa [Value.ownBlock] using h
    exact hqm
  · obtain ⟨_, cur', hc⟩ := ownsRow_blk ht h
    exact Below.heap_setCell _ _ _ _ (show b ≠ bh from hc.ne hI.blk (by decide))
end Go.Proofs.YthfjmcomhccbaaaGreatDoor

namespace Go.Proofs.YthfjmcomhccbaaaGreatDoor
open Go.RowKit Tmx Evx
set_option maxRecDepth 60000

theorem asTypesV_len {rec : Th → Option V} {n : Nat} {a b : Th} {r : Bool} {more : List (Th × Th)} {ts : List Th} (h : asTypesV rec n a b = some (r, more, ts)) : more.length ≤ 2 ∧ ts.length ≤ 1 := by
  unfold asTypesV at h
  split at h
  · split at h
    · simp only [Option.some.injEq, Prod.mk.injEq] at h; obtain ⟨_, rfl, rfl⟩ := h; exact ⟨by decide, by decide⟩
    · split at h
      · simp only [Option.some.injEq, Prod.mk.injEq] at h; obtain ⟨_, rfl, rfl⟩ := h; exact ⟨by decide, by decide⟩
      · split at h
        · split at h
          · simp only [Option.some.injEq, Prod.mk.injEq] at h; obtain ⟨_, rfl, rfl⟩ := h; exact ⟨by simp, by simp⟩
          · cases h
        · split at h
          · cases h
          · simp only [Option.some.injEq, Prod.mk.injEq] at h; obtain ⟨_, rfl, rfl⟩ := h; exact ⟨by decide, by decide⟩
  · cases h

set_option maxHeartbeats 4000000 in
theorem all_any (s bh n f : Nat) (L : List (Th × Th)) (c : Nat) (g0 g : Gh) (w0 w : World) (hs : Ste g0 w0 g w) (hH : HoldAt g w0 w bh n L c) (hL : L.length + 2 * f ≤ 900000) (hn : n ≤ 1000000) (hc : c + f ≤ 1000000) (r : Bool) (hr : allV (ev s) f L (n + c) = some r) :
    Calls Tryz.prog 166 #[ptr bh] w fun e w' => e = .returned (.bool r) ∧ ∃ g', Ste g0 w0 g' w' := by
  have HS : Hid (Ste g0 w0 g w ∧ HoldAt g w0 w bh n L c ∧ L.length + 2 * f ≤ 900000 ∧ c + f ≤ 1000000 ∧ allV (ev s) f L (n + c) = some r) := ⟨hs, hH, hL, hc, hr⟩
  unfold ptr
  clear hs hH hL hc hr
  go_enter Tryz.func166, Tryz.ntmps166
  go_wp2_with fail
  go_loopg [] f (fun gg wr => ∃ (g1 : Gh) (L1 : List (Th × Th)) (c1 : Nat), Hid (Ste g0 w0 g1 wr ∧ HoldAt g1 w0 wr bh n L1 c1 ∧ L1.length + 2 * gg ≤ 900000 ∧ c1 + gg ≤ 1000000 ∧ allV (ev s) gg L1 (n + c1) = some r))
  case atStart => exact ⟨g, L, c, HS⟩
  case round =>
    obtain ⟨g1, L1, c1, h⟩ := hrel
    obtain ⟨hs, ⟨vl, pa, ca, vt, hI⟩, h1, h2, h3⟩ := h.out
    clear h HS
    cases gk with
    | zero => simp [allV] at h3
    | succ k =>
    by_cases hL1 : L1 = []
    · subst hL1
      have hr : r = true := by
        have : some true = some r := h3
        exact (Option.some.inj this).symm
      subst hr
      obtain ⟨p, cap, rfl⟩ := hI.form
      obtain ⟨c0, _, _, f0, _, _⟩ := hI.blk.three
      have HF : Hid (∃ g', Ste g0 w0 g' wr) := ⟨g1, hs⟩
      simp only [List.length_nil] at c0
      clear hs hI h1 h2 h3
      go_wp2_with fail
      refine bodyPost_ret (v := .bool true) (by simp [results, Tryz.results166, go_sem]) rfl ⟨rfl, HF.out⟩
    · obtain ⟨L2, a, b, rfl⟩ : ∃ L2 a b, L1 = L2 ++ [(a, b)] := ⟨L1.dropLast, (L1.getLast hL1).1, (L1.getLast hL1).2, (List.dropLast_concat_getLast hL1).symm⟩
      obtain ⟨r1, more, ts, ha, h3'⟩ : ∃ r1 more ts, asTypesV (ev s) (n + c1) a b = some (r1, more, ts) ∧ (if r1 then allV (ev s) k (L2 ++ more) (n + c1 + ts.length) else some false) = some r := by
        simp only [allV, List.getLast?_append, List.getLast?_singleton, Option.some_or, List.dropLast_concat] at h3
        cases e : asTypesV (ev s) (n + c1) a b with
        | none => rw [e] at h3; cases h3
        | some x =>
          obtain ⟨r1, more, ts⟩ := x
          rw [e] at h3
          cases r1
          · exact ⟨_, _, _, rfl, h3⟩
          · exact ⟨_, _, _, rfl, h3⟩
      rw [List.length_append] at h1
      simp only [List.length_cons, List.length_nil] at h1
      have hl := asTypesV_len ha
      obtain ⟨q, cap, qa, qb, rfl, hcap, hqb, la, lb, k0, k1, k2, hcut⟩ := hold_cut hs hI
      have hbW : Below wr.heap.size wr (wr.alloc (.cells #[.pointer (some ⟨qa, 0, none⟩), .pointer (some ⟨qb, 0, none⟩), .pointer none] 236)) := (Below.refl _ wr).alloc (Nat.le_refl _) _
      obtain ⟨hs2, hI2⟩ := hcut _ hbW
      have HO := one_any s bh qa qb n a b L2 c1 g0 g1 w0 _ hs2 ⟨_, _, _, _, hI2⟩ la lb (by omega) hn (by omega) r1 more ts ha
      have hne : wr.heap.size ≠ bh := by have := hI.blk.lt; omega
      have hBx := (Blk.new wr #[.pointer (some ⟨qa, 0, none⟩), .pointer (some ⟨qb, 0, none⟩), .pointer none] 236).setOther (x := ⟨bh, 0, none⟩) hne (.slice (some ⟨q, 0, none⟩) L2.length cap)
      obtain ⟨x0, x1, x2, _, _, _⟩ := hBx.three
      obtain ⟨c0, _, _, f0, _, _⟩ := hI.blk.three
      obtain ⟨d0, _, _, g0', _, _⟩ := (hI.blk.alloc (.cells #[.pointer (some ⟨qa, 0, none⟩), .pointer (some ⟨qb, 0, none⟩), .pointer none] 236)).three
      have HR := (show Hid _ from h3')
      have HN : Hid (L2.length + 1 + 2 * (k + 1) ≤ 900000 ∧ c1 + (k + 1) ≤ 1000000 ∧ more.length ≤ 2 ∧ ts.length ≤ 1) := ⟨by omega, h2, hl⟩
      unfold ptr at HO
      clear hs hI h2 h3 h3' ha hl hcut hbW hs2 hI2 la lb hBx hL1
      obtain ⟨m, hm⟩ : ∃ m, L2.length = m := ⟨_, rfl⟩
      have HmL : Hid (L2.length = m) := hm
      simp only [hm] at hcap k0 k1 k2 HO x0 x1 x2 c0 d0 h1
      clear hm
      go_wp2_with fail
      refine HO.mono ?_
      rintro e w2 ⟨rfl, g2, hs3, _, _, hH3⟩
      have HT : Hid (Ste g0 w0 g2 w2 ∧ HoldAt g2 w0 w2 bh n (L2 ++ more) (c1 + ts.length)) := ⟨hs3, hH3⟩
      clear hs3 hH3 HO x0 x1 x2 c0 d0 k0 k1 k2 f0 g0'
      cases r1 with
      | false =>
        obtain rfl : r = false := by
          have := HR.out
          rw [if_neg (by decide)] at this
          exact (Option.some.inj this).symm
        go_wp2_with fail
        refine bodyPost_ret (v := .bool false) (by simp [results, Tryz.results166, go_sem]) rfl ⟨rfl, g2, HT.out.1⟩
      | true =>
        have HR2 : Hid (allV (ev s) k (L2 ++ more) (n + (c1 + ts.length)) = some r) := by
          have := HR.out
          rw [if_pos rfl] at this
          rw [← Nat.add_assoc]
          exact this
        clear HR
        go_wp2_with fail
        go_roundg k
        case measure => omega
        case rel =>
          have h := HN.out
          have hm := HmL.out
          exact ⟨g2, L2 ++ more, c1 + ts.length, HT.out.1, HT.out.2, by rw [List.length_append]; omega, by omega, HR2.out⟩
end Go.Proofs.YthfjmcomhccbaaaGreatDoor

namespace Go.Proofs.YthfjmcomhccbaaaGreatDoor
open Go.RowKit Tmx Evx
set_option maxRecDepth 60000

/-- Are two types the same, where so many are bound? -/
def sameTypeV (rec : Th → Option V) (f n : Nat) (a b : Th) : Option Bool := allV rec f [(a, b)] n

set_option maxHeartbeats 4000000 in
theorem sameTypeValues_any (s f qa qb n ca : Nat) (pa : Option Addr) (ta tb : Th) (g : Gh) (w : World) (hi : Inv g w) (ha : g.l qa = some ta) (hb : g.l qb = some tb) (hf : f ≤ 400000) (hn : n ≤ 1000000) (r : Bool) (hr : sameTypeV (ev s) f n ta tb = some r) :
    Calls Tryz.prog 144 #[.slice pa n ca, ptr qa, ptr qb] w fun e w' => e = .returned (.bool r) ∧ ∃ g', Ste g w g' w' := by
  have hs1 : Ste g w g (w.alloc (.cells #[.slice none 0 0, .slice pa n ca, .slice none 0 0] 224)) := .below hi ((Below.refl _ w).alloc (Nat.le_refl _) _)
  have hH : HoldAt g w (w.alloc (.cells #[.slice none 0 0, .slice pa n ca, .slice none 0 0] 224)) w.heap.size n [] 0 :=
    ⟨_, pa, ca, _, Nat.le_refl _, ⟨hi.l_new (Nat.le_refl _), hi.o_new (Nat.le_refl _)⟩, Blk.new w _ _, ⟨[], World.ownsRow_nil _ _ _ _, rfl⟩, (fun b h => by cases h), ⟨[], World.ownsRow_nil _ _ _ _⟩, (fun b h => by cases h)⟩
  have HM := mustType_any w.heap.size qa qb n ta tb [] 0 g g w _ hs1 hH ha hb (Nat.zero_le _)
  have HR : Hid (allV (ev s) f [(ta, tb)] (n + 0) = some r) := hr
  unfold ptr at *
  clear hs1 hH ha hb hr hi
  go_enter Tryz.func144, Tryz.ntmps144
  go_wp2_with fail
  refine HM.mono ?_
  rintro e w2 ⟨rfl, g2, hs2, _, _, hH2⟩
  have HA := all_any s w.heap.size n f _ 0 g g2 w w2 hs2 hH2 (by show 0 + 1 + 2 * f ≤ _; omega) hn (by omega) r HR.out
  unfold ptr at HA
  clear hs2 hH2 HM
  go_wp2_with fail
  refine HA.mono ?_
  rintro e w3 ⟨rfl, hP⟩
  have HP := (show Hid _ from hP)
  clear hP HA
  go_wp2_with fail
  refine bodyPost_ret (v := .bool r) (by simp [results, Tryz.results144, go_sem]) rfl ⟨rfl, HP.out⟩
end Go.Proofs.YthfjmcomhccbaaaGreatDoor

namespace Go.Proofs.YthfjmcomhccbaaaGreatDoor
open Go.RowKit Tmx Evx
set_option maxRecDepth 60000

/-- Pointers to thunks. -/
def PLs (g : Gh) : List Value → List Th → Prop
  | xs, [] => xs = []
  | xs, t :: r => ∃ x ys, xs = x :: ys ∧ PL g x t ∧ PLs g ys r
theorem PLs.mono {g g' : Gh} (h : ∀ b t, g.l b = some t → g'.l b = some t) : ∀ {Ts : List Th} {xs : List Value}, PLs g xs Ts → PLs g' xs Ts
  | [], _, e => e
  | _ :: _, _, ⟨x, ys, e, ⟨p, e1, h1⟩, hr⟩ => ⟨x, ys, e, ⟨p, e1, h _ _ h1⟩, hr.mono h⟩
theorem PLs.push {g : Gh} {x : Value} {t : Th} (hx : PL g x t) : ∀ {Ts : List Th} {xs : List Value}, PLs g xs Ts → PLs g (xs ++ [x]) (Ts ++ [t])
  | [], _, e => by subst e; exact ⟨x, [], rfl, hx, rfl⟩
  | _ :: _, _, ⟨x', ys, e, h1, hr⟩ => by subst e; exact ⟨x', _, rfl, h1, hr.push hx⟩
theorem PLs.len {g : Gh} : ∀ {Ts : List Th} {xs : List Value}, PLs g xs Ts → xs.length = Ts.length
  | [], _, e => by subst e; rfl
  | _ :: _, _, ⟨x, ys, e, _, hr⟩ => by subst e; simp [hr.len]
theorem PLs.split {g : Gh} : ∀ {Ts Us : List Th} {xs : List Value}, PLs g xs (Ts ++ Us) → PLs g (xs.take Ts.length) Ts
  | [], _, _, _ => rfl
  | _ :: _, _, _, ⟨x, ys, e, h1, hr⟩ => by subst e; exact ⟨x, _, rfl, h1, hr.split⟩
theorem PLs.at {g : Gh} : ∀ {Ts : List Th} {xs : List Value}, PLs g xs Ts → ∀ {i : Nat} {t : Th}, Ts[i]? = some t → ∃ x, xs[i]? = some x ∧ PL g x t
  | [], _, _, i, t, h => by simp at h
  | u :: r, _, ⟨x, ys, e, h1, hr⟩, 0, t, h => by subst e; exact (show u = t by simpa using h) ▸ ⟨x, rfl, h1⟩
  | u :: r, _, ⟨x, ys, e, h1, hr⟩, i + 1, t, h => by subst e; exact hr.at (i := i) (by simpa using h)

/-- Declarations' types, as a slice of declarations has them, seven cells apart. -/
structure Ds where
  v : Value
  T : List (Int × Int × F)
def TysAt (O : Nat → Prop) (w : World) (vd : Ds) : Prop :=
  ∃ p cap, vd.v = .slice p vd.T.length cap ∧ ∀ (i : Nat) (d : Int × Int × F), vd.T[i]? = some d → ∃ b o, p = some ⟨b, o, none⟩ ∧ TmAt O w b (o + i * 7 + 1) d.1 d.2.1 d.2.2 ∧ d.1 ≠ 1
theorem TysAt.mor {g g' : Gh} {w w' : World} (h : Mor g w g' w') {vd : Ds} (ht : TysAt g.o w vd) : TysAt g'.o w' vd := by
  obtain ⟨p, cap, e, k⟩ := ht
  exact ⟨p, cap, e, fun i d hd => by
    obtain ⟨b, o, e, k, n⟩ := k i d hd
    exact ⟨b, o, e, k.mor h, n⟩⟩

/-- A scope: the declarations (as the slice says), what makes values, the types of what is bound. -/
structure ScopeIn (g : Gh) (w0 w : World) (bs : Nat) (vd : Ds) (pm : Nat) (vt : Value) (D : List (Int × Int × F)) (Ts : List Th) : Prop where
  lo : w0.heap.size ≤ bs
  my : Own1 g bs
  blk : Blk w bs #[vd.v, ptr pm, vt] 204
  mker : MkIs g w pm ⟨0, 0, D⟩
  tys : TysAt g.o w vd
  types : ∃ xs, w.ownsRow w0.heap.size 43 1 vt Ts.length xs ∧ PLs g xs Ts
  tmy : ∀ b, vt.ownBlock = some b → Own1 g b
def ScopeAt (g : Gh) (w0 w : World) (bs : Nat) (vd : Ds) (D : List (Int × Int × F)) (Ts : List Th) : Prop := ∃ pm vt, ScopeIn g w0 w bs vd pm vt D Ts
theorem ScopeIn.ste {g g' : Gh} {w0 w w' : World} {bs : Nat} {vd : Ds} {pm : Nat} {vt : Value} {D : List (Int × Int × F)} {Ts : List Th} (h : ScopeIn g w0 w bs vd pm vt D Ts) (hi : Inv g w) (hs : Ste g w g' w') : ScopeIn g' w0 w' bs vd pm vt D Ts := by
  obtain ⟨xs, h1, h2⟩ := h.types
  have k := h.my.ste h.blk.lt hs
  have kt : ∀ b, vt.ownBlock = some b → Own1 g' b ∧ w'.heap[b]? = w.heap[b]? := fun b hb => (h.tmy b hb).ste (let ⟨_, _, q⟩ := ownsRow_blk h1 hb; q.lt) hs
  exact ⟨h.lo, k.1, h.blk.of_eq k.2, h.mker.along (hs.mor hi), h.tys.mor (hs.mor hi), ⟨xs, ownsRow_keep h1 fun b hb => (kt b hb).2, h2.mono hs.le.l⟩, fun b hb => (kt b hb).1⟩
theorem ScopeAt.ste {g g' : Gh} {w0 w w' : World} {bs : Nat} {vd : Ds} {D : List (Int × Int × F)} {Ts : List Th} (h : ScopeAt g w0 w bs vd D Ts) (hi : Inv g w) (hs : Ste g w g' w') : ScopeAt g' w0 w' bs vd D Ts :=
  let ⟨pm, vt, h⟩ := h
  ⟨pm, vt, h.ste hi hs⟩
theorem ScopeIn.form {g : Gh} {w0 w : World} {bs : Nat} {vd : Ds} {pm : Nat} {vt : Value} {D : List (Int × Int × F)} {Ts : List Th} (h : ScopeIn g w0 w bs vd pm vt D Ts) : ∃ p cap, vt = .slice p Ts.length cap ∧ Ts.length ≤ cap := by
  obtain ⟨xs, ⟨_, h1⟩, _⟩ := h.types
  rcases h1 with ⟨e, h0⟩ | ⟨q, cap, _, e, _, _, hc, _⟩
  · exact ⟨none, 0, by rw [e, h0], by omega⟩
  · exact ⟨_, cap, e, hc⟩

/-- Where the caller's own blocks alone have changed. -/
theorem Mor.own {g : Gh} {w w' : World} (hi : Inv g w) {P : Nat → Prop} (hP : ∀ b, P b → Own1 g b) (h : ∀ b, b < w.heap.size → ¬ P b → w'.heap[b]? = w.heap[b]?) : Mor g w g w' :=
  ⟨fun _ _ e => e, fun _ _ e => e, fun _ e => e, fun b hb => h b (hi.o b hb).2 fun hp => (hP b hp).2 hb⟩

/-- Behind the append, and the store, of a type more. -/
theorem scope_types {g0 g : Gh} {w0 w w1 w2 : World} {bs : Nat} {vd : Ds} {pm : Nat} {vt : Value} {D : List (Int × Int × F)} {Ts Us : List Th} {q cap : Nat} {ys : List Value} (hs : Ste g0 w0 g w) (hH : ScopeIn g w0 w bs vd pm vt D Ts) (hb : Below w.heap.size w w1)
    (ho : w2.ownsRow w0.heap.size 43 1 (.slice (some ⟨q, 0, none⟩) Us.length cap) Us.length ys) (hU : PLs g ys Us) (hg : w1.grownBy w2 vt.ownBlock) (hat : vt.ownBlock = some q ∨ q = w1.heap.size) :
    Ste g0 w0 g (w2.setCell ⟨bs, 2, none⟩ (.slice (some ⟨q, 0, none⟩) Us.length cap)) ∧ ScopeIn g w0 (w2.setCell ⟨bs, 2, none⟩ (.slice (some ⟨q, 0, none⟩) Us.length cap)) bs vd pm (.slice (some ⟨q, 0, none⟩) Us.length cap) D Us ∧ Mor g w g (w2.setCell ⟨bs, 2, none⟩ (.slice (some ⟨q, 0, none⟩) Us.length cap)) := by
  have hs1 : Ste g w g w1 := .below hs.inv hb
  have h1 := hH.ste hs.inv hs1
  obtain ⟨zs, h3, _⟩ := h1.types
  have hs2 : Ste g0 w0 g w2 := (hs.trans hs1).grown hg fun b hb => ⟨(ownsRow_blk h3 hb).1, h1.tmy b hb⟩
  have hbl : ∀ b cs (T : TypeId), Blk w1 b cs T → T ≠ 43 → Blk w2 b cs T := fun b cs T hB hT => hB.of_eq (hg.block b hB.lt fun e => by
    obtain ⟨_, cur, hc⟩ := ownsRow_blk h3 e.symm
    exact hB.ne hc hT rfl)
  have hB := hbl _ _ _ h1.blk (by decide)
  have hqb : q ≠ bs := by
    obtain ⟨_, cur, hc⟩ := ownsRow_blk ho (b := q) rfl
    exact hc.ne hB (by decide)
  have hmq : Own1 g q := by
    rcases hat with e | e
    · exact h1.tmy q e
    · exact ⟨hs1.inv.l_new (by omega), hs1.inv.o_new (by omega)⟩
  have hmo : Mor g w1 g (w2.setCell ⟨bs, 2, none⟩ (.slice (some ⟨q, 0, none⟩) Us.length cap)) := .own hs1.inv (P := fun b => vt.ownBlock = some b ∨ b = bs) (fun b h => by
    rcases h with h | h
    · exact h1.tmy b h
    · exact h ▸ h1.my) fun b hb hn => by
    rw [Below.heap_setCell _ _ _ _ (show b ≠ bs from fun e => hn (.inr e))]
    exact hg.block b hb fun e => hn (.inl e.symm)
  refine ⟨hs2.setCell h1.lo h1.my.1 h1.my.2 _, ⟨h1.lo, h1.my, hB.set32 _, h1.mker.along hmo, h1.tys.mor hmo, ⟨ys, ownsRow_keep ho fun b hb => ?_, hU⟩, fun b hb => ?_⟩, (hs1.mor hs.inv).trans hmo⟩
  · obtain rfl : q = b := by simpa [Value.ownBlock] using hb
    exact Below.heap_setCell _ _ _ _ hqb
  · obtain rfl : q = b := by simpa [Value.ownBlock] using hb
    exact hmq

/-- What a function of a scope leaves. -/
structure ScopeP (g0 : Gh) (w0 : World) (g : Gh) (w : World) (bs : Nat) (vd : Ds) (D : List (Int × Int × F)) (Ts : List Th) (g' : Gh) (w' : World) : Prop where
  ste : Ste g0 w0 g' w'
  mor : Mor g w g' w'
  at_ : ScopeAt g' w0 w' bs vd D Ts
theorem ScopeP.then {g0 g g' g'' : Gh} {w0 w w' w'' : World} {bs : Nat} {vd : Ds} {D : List (Int × Int × F)} {Ts : List Th} (h : ScopeP g0 w0 g w bs vd D Ts g' w') (k : Ste g' w' g'' w'') : ScopeP g0 w0 g w bs vd D Ts g'' w'' := ⟨h.ste.trans k, h.mor.trans (k.mor h.ste.inv), h.at_.ste h.ste.inv k⟩
theorem ScopeP.of {g0 g g' : Gh} {w0 w w' : World} {bs : Nat} {vd : Ds} {D : List (Int × Int × F)} {Ts : List Th} (hs : Ste g0 w0 g w) (hH : ScopeAt g w0 w bs vd D Ts) (k : Ste g w g' w') : ScopeP g0 w0 g w bs vd D Ts g' w' := ⟨hs.trans k, k.mor hs.inv, hH.ste hs.inv k⟩
theorem ScopeP.trans {g0 g g' g'' : Gh} {w0 w w' w'' : World} {bs : Nat} {vd : Ds} {D : List (Int × Int × F)} {Ts Us : List Th} (h : ScopeP g0 w0 g w bs vd D Us g' w') (k : ScopeP g0 w0 g' w' bs vd D Ts g'' w'') : ScopeP g0 w0 g w bs vd D Ts g'' w'' := ⟨k.ste, h.mor.trans k.mor, k.at_⟩

set_option maxHeartbeats 4000000 in
theorem sbind_any (bs qa : Nat) (vd : Ds) (ta : Th) (D : List (Int × Int × F)) (Ts : List Th) (g0 g : Gh) (w0 w : World) (hs : Ste g0 w0 g w) (hH : ScopeAt g w0 w bs vd D Ts) (ha : g.l qa = some ta) (hc : Ts.length ≤ 1000000) :
    Calls Tryz.prog 142 #[ptr bs, ptr qa] w fun e w' => ∃ g' q, e = .returned (ptr q) ∧ ScopeP g0 w0 g w bs vd D (Ts ++ [ta]) g' w' ∧ g'.l q = some (.val (free (Ts.length : Int))) := by
  obtain ⟨pm, vt, hH⟩ := hH
  have hb1 : Below w.heap.size w (w.alloc (.cells #[.pointer (some ⟨qa, 0, none⟩)] 43)) := (Below.refl _ w).alloc (Nat.le_refl _) _
  have h1 := hH.ste hs.inv (.below hs.inv hb1)
  obtain ⟨xs, h2, h3⟩ := h1.types
  obtain ⟨q, cap, w2, hr, ho, hg, hat, hlt⟩ := append_lat _ w0.heap.size vt Ts.length xs h2 w.heap.size 1 _ (Blk.new w _ _) rfl hc (by have := hs.keep.size; have := hb1.size; omega) 65
  have hp := scope_types (Us := Ts ++ [ta]) hs hH hb1 (by rw [List.length_append]; exact ho) (h3.push ⟨qa, rfl, ha⟩) hg hat
  rw [List.length_append] at hp
  obtain ⟨c, hcn⟩ : ∃ c, Ts.length = c := ⟨_, rfl⟩
  have HN : Hid (Ts.length = c) := hcn
  simp only [List.length_cons, List.length_nil, hcn] at hp hr hc
  have HR := (show Hid _ from hr)
  obtain ⟨_, _, c2, _, _, f2⟩ := h1.blk.three
  have hB2 : Blk w2 bs #[vd.v, ptr pm, vt] 204 := h1.blk.of_eq (hg.block bs h1.blk.lt fun e => by
    obtain ⟨_, cur, hc⟩ := ownsRow_blk h2 e.symm
    exact h1.blk.ne hc (by decide) rfl)
  obtain ⟨_, _, d2, _, _, k2⟩ := hB2.three
  obtain ⟨_, _, e2, _, _, j2⟩ := hH.blk.three
  have HC : ∀ m, Calls Tryz.prog 49 #[.int .i64 m] (w2.setCell ⟨bs, 2, none⟩ (.slice (some ⟨q, 0, none⟩) (c + (0 + 1)) cap)) (LatP g (w2.setCell ⟨bs, 2, none⟩ (.slice (some ⟨q, 0, none⟩) (c + (0 + 1)) cap)) (.val (free m))) := fun m => free_any m g _ hp.1.inv
  obtain ⟨_, s1, s2, _, _, _⟩ := hp.2.1.blk.three
  have HP : Hid (Ste g0 w0 g (w2.setCell ⟨bs, 2, none⟩ (.slice (some ⟨q, 0, none⟩) (c + (0 + 1)) cap)) ∧ ScopeIn g w0 (w2.setCell ⟨bs, 2, none⟩ (.slice (some ⟨q, 0, none⟩) (c + (0 + 1)) cap)) bs vd pm (.slice (some ⟨q, 0, none⟩) (c + (0 + 1)) cap) D (Ts ++ [ta]) ∧ Mor g w g (w2.setCell ⟨bs, 2, none⟩ (.slice (some ⟨q, 0, none⟩) (c + (0 + 1)) cap))) := hp
  unfold ptr at *
  clear hp hr hb1 h1 h2 h3 ho hg hat hlt hB2 hH hs hcn ha
  go_enter Tryz.func142, Tryz.ntmps142
  go_wp2_with (first | (at_builtin; refine wpList_app_run rfl _ _ 65 65 rfl _ _ _ rfl rfl HR.out ?_))
  refine (HC _).mono ?_
  rintro e w3 ⟨g3, b3, rfl, hs4, hl4⟩
  unfold ptr
  have HT : Hid (ScopeP g0 w0 g w bs vd D (Ts ++ [ta]) g3 w3) := ⟨HP.out.1.trans hs4, HP.out.2.2.trans (hs4.mor HP.out.1.inv), _, _, HP.out.2.1.ste HP.out.1.inv hs4⟩
  have HL4 := (show Hid _ from hl4)
  clear hs4 hl4 HC
  go_wp2_with fail
  refine bodyPost_ret (v := .pointer (some ⟨b3, 0, none⟩)) (by simp [results, Tryz.results142, go_sem]) rfl ⟨g3, b3, rfl, HT.out, HL4.out.trans (by congr 3; (try rw [HN.out]); all_goals (try omega))⟩
end Go.Proofs.YthfjmcomhccbaaaGreatDoor
