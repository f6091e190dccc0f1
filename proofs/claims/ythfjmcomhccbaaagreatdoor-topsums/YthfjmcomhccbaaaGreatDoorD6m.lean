/-
  Contracts of package decl: a list of declarations that is one's own; further.
-/
/-
  Contracts of package decl: further.
-/
import Derived.Test.YthfjmcomhccbaaaGreatDoorD4m
namespace Go.Proofs.YthfjmcomhccbaaaGreatDoor
open Go.RowKit Tmx Evx
set_option maxRecDepth 60000

theorem RowO.and {O O' : Nat → Prop} {w : World} : ∀ (f : F) (b o : Nat), RowO O w b o f → RowO O' w b o f → RowO (fun b => O b ∧ O' b) w b o f
  | .nil, _, _, _, _ => trivial
  | .node _ _ a l r, b, o, hr, hr' => by
    obtain ⟨h0, h1, h2, ⟨p, b1, o1, cap, h3, h4, h6⟩, h5⟩ := hr
    obtain ⟨k0, _, _, ⟨p', b2, o2, cap', k3, k4, k6⟩, k5⟩ := hr'
    rw [h3] at k3
    simp only [Option.some.injEq, Value.slice.injEq, true_and] at k3
    obtain ⟨rfl, _⟩ := k3
    refine ⟨⟨h0, k0⟩, h1, h2, ⟨p, b1, o1, cap, h3, h4, ?_⟩, RowO.and r b (o + 3) h5 k5⟩
    by_cases hl : 0 < len l
    · have e := h4 hl
      rw [k4 hl] at e
      simp only [Option.some.injEq, Addr.mk.injEq, and_true] at e
      obtain ⟨rfl, rfl⟩ := e
      exact RowO.and l b2 o2 h6 k6
    · rw [size_nil_of_len l (by omega)]
      trivial
theorem SlO.and {O O' : Nat → Prop} {w : World} {q : Option Addr} {f : F} (h : SlO O w q f) (h' : SlO O' w q f) : SlO (fun b => O b ∧ O' b) w q f := by
  obtain ⟨b, o, h1, h2⟩ := h
  obtain ⟨b', o', k1, k2⟩ := h'
  refine ⟨b, o, h1, ?_⟩
  by_cases hl : 0 < len f
  · have e := h1 hl
    rw [k1 hl] at e
    simp only [Option.some.injEq, Addr.mk.injEq, and_true] at e
    obtain ⟨rfl, rfl⟩ := e
    exact RowO.and f _ _ h2 k2
  · rw [size_nil_of_len f (by omega)]
    trivial

/-- The cells of declarations. -/
def CellsD (O : Nat → Prop) (w : World) : List Dcl → List Value → Prop
  | [], xs => xs = []
  | d :: r, xs => ∃ p1 p2 c1 c2 ys, xs = sevenD d p1 p2 c1 c2 ++ ys ∧ len d.T.2.2 ≤ c1 ∧ len d.B.2.2 ≤ c2 ∧ SlO O w p1 d.T.2.2 ∧ SlO O w p2 d.B.2.2 ∧ CellsD O w r ys
theorem CellsD.map {O O' : Nat → Prop} {w w' : World} (h : ∀ {q : Option Addr} {f : F}, SlO O w q f → SlO O' w' q f) : ∀ {l : List Dcl} {xs : List Value}, CellsD O w l xs → CellsD O' w' l xs
  | [], _, e => e
  | _ :: _, _, ⟨p1, p2, c1, c2, ys, e, h1, h2, h3, h4, hr⟩ => ⟨p1, p2, c1, c2, ys, e, h1, h2, h h3, h h4, hr.map h⟩
theorem CellsD.push {O : Nat → Prop} {w : World} {d : Dcl} {p1 p2 : Option Addr} {c1 c2 : Nat} (h1 : len d.T.2.2 ≤ c1) (h2 : len d.B.2.2 ≤ c2) (h3 : SlO O w p1 d.T.2.2) (h4 : SlO O w p2 d.B.2.2) : ∀ {l : List Dcl} {xs : List Value}, CellsD O w l xs → CellsD O w (l ++ [d]) (xs ++ sevenD d p1 p2 c1 c2)
  | [], _, e => by subst e; exact ⟨p1, p2, c1, c2, [], by simp, h1, h2, h3, h4, rfl⟩
  | _ :: _, _, ⟨q1, q2, b1, b2, ys, e, k1, k2, k3, k4, hr⟩ => by subst e; exact ⟨q1, q2, b1, b2, _, by rw [List.append_assoc], k1, k2, k3, k4, hr.push h1 h2 h3 h4⟩
theorem CellsD.at {O : Nat → Prop} {w : World} : ∀ {l : List Dcl} {xs : List Value}, CellsD O w l xs → ∀ {i : Nat} {d : Dcl}, l[i]? = some d → ∃ p1 p2 c1 c2, (∀ (j : Nat) (v : Value), (sevenD d p1 p2 c1 c2)[j]? = some v → xs[i * 7 + j]? = some v) ∧ len d.T.2.2 ≤ c1 ∧ len d.B.2.2 ≤ c2 ∧ SlO O w p1 d.T.2.2 ∧ SlO O w p2 d.B.2.2
  | [], _, _, i, d, h => by simp at h
  | x :: r, _, ⟨p1, p2, c1, c2, ys, e, h1, h2, h3, h4, hr⟩, 0, d, h => by
    subst e
    obtain rfl : x = d := by simpa using h
    refine ⟨p1, p2, c1, c2, fun j v hj => ?_, h1, h2, h3, h4⟩
    have := (List.getElem?_eq_some_iff.1 hj).1
    rw [Nat.zero_mul, Nat.zero_add, List.getElem?_append_left this]
    exact hj
  | x :: r, _, ⟨p1, p2, c1, c2, ys, e, h1, h2, h3, h4, hr⟩, i + 1, d, h => by
    subst e
    obtain ⟨q1, q2, b1, b2, k, k1, k2, k3, k4⟩ := hr.at (i := i) (by simpa using h)
    refine ⟨q1, q2, b1, b2, fun j v hj => ?_, k1, k2, k3, k4⟩
    rw [List.getElem?_append_right (by simp only [sevenD, List.length_cons, List.length_nil]; omega), show (i + 1) * 7 + j - (sevenD x p1 p2 c1 c2).length = i * 7 + j by simp only [sevenD, List.length_cons, List.length_nil]; omega]
    exact k j v hj

/-- A list of declarations that is one's own, from lo on; what its declarations are made of lies elsewhere than its row. -/
def DlIn (lo : Nat) (w : World) (v : Value) (l : List Dcl) : Prop := ∃ xs, w.ownsRow lo 70 7 v l.length xs ∧ CellsD (fun b => (lo ≤ b ∧ v.ownBlock ≠ some b) ∧ b < w.heap.size) w l xs
theorem DlIn.form {lo : Nat} {w : World} {v : Value} {l : List Dcl} (h : DlIn lo w v l) : ∃ p cap, v = .slice p l.length cap ∧ l.length ≤ cap := by
  obtain ⟨xs, ⟨_, h1⟩, _⟩ := h
  rcases h1 with ⟨e, h0⟩ | ⟨q, cap, _, e, _, _, hc, _⟩
  · exact ⟨none, 0, by rw [e, h0], by omega⟩
  · exact ⟨_, cap, e, hc⟩
theorem DlIn.at {lo : Nat} {w : World} {p : Option Addr} {cap : Nat} {l : List Dcl} (h : DlIn lo w (.slice p l.length cap) l) : DlAt w p l := fun i d hd => by
  obtain ⟨xs, ⟨h0, h1⟩, h2⟩ := h
  obtain ⟨p1, p2, c1, c2, hc, k1, k2, k3, k4⟩ := h2.at hd
  have hi := (List.getElem?_eq_some_iff.1 hd).1
  rcases h1 with ⟨_, hz⟩ | ⟨q, cap', cur, e, _, hh, _, _, _, ht⟩
  · omega
  · simp only [Value.slice.injEq] at e
    obtain ⟨rfl, _, rfl⟩ := e
    refine ⟨q, 0, p1, p2, c1, c2, rfl, fun j v hj => ?_, k1, k2, k3.mono fun b h => h.2, k4.mono fun b h => h.2⟩
    have hx := hc j v hj
    have hl := (List.getElem?_eq_some_iff.1 hx).1
    rw [Nat.zero_add, cell_of_row w q _ cur 70 (0, 0) hh, ← Array.getElem?_toList]
    rw [← ht, List.getElem?_take, if_pos (by omega)] at hx
    exact hx
theorem DlIn.below {lo : Nat} {w w' : World} {v : Value} {l : List Dcl} (h : DlIn lo w v l) (hb : Below w.heap.size w w') : DlIn lo w' v l := by
  obtain ⟨xs, h1, h2⟩ := h
  refine ⟨xs, ownsRow_keep h1 fun b hb' => ?_, h2.map fun {q f} hs => ?_⟩
  · obtain ⟨_, cur, hc⟩ := ownsRow_blk h1 hb'
    exact hb.block b hc.lt
  · exact hs.along (fun b h => ⟨h.1, Nat.lt_of_lt_of_le h.2 hb.size⟩) fun b h => hb.block b h.2
theorem DlIn.nil (lo : Nat) (w : World) : DlIn lo w (.slice none 0 0) [] := ⟨[], World.ownsRow_nil _ _ _ _, rfl⟩

theorem uDcl : Tryz.prog.underlying 23 = some (.slice 70) := by kernel_rfl
theorem iDcl : (Tryz.prog.info? 70).map (fun i => (i.zero, i.size, i.bytes)) = some (some (.agg #[.string ⟨#[]⟩, .int .i64 0, .int .i64 0, .slice none 0 0, .int .i64 0, .int .i64 0, .slice none 0 0]), 7, 96) := by kernel_rfl
theorem append_decl (w : World) (lo : Nat) (v : Value) (n : Nat) (xs : List Value) (h : w.ownsRow lo 70 7 v n xs) (B c : Nat) (d : Dcl) (p1 p2 : Option Addr) (c1 c2 : Nat) (hB : Blk w B (sevenD d p1 p2 c1 c2).toArray 70)
    (hn : n ≤ 1000000) (hlo : lo ≤ w.heap.size) (ty : TypeId) :
    ∃ g cap w', (Builtin.append_ #[23, 23] ty #[v, .slice (some ⟨B, 0, none⟩) 1 c]).run Tryz.prog w = .ok (.slice (some ⟨g, 0, none⟩) (n + 1) cap) w' ∧
      w'.ownsRow lo 70 7 (.slice (some ⟨g, 0, none⟩) (n + 1) cap) (n + 1) (xs ++ sevenD d p1 p2 c1 c2) ∧ w.grownBy w' v.ownBlock ∧ (v.ownBlock = some g ∨ g = w.heap.size) ∧ g < w'.heap.size := by
  obtain ⟨i, hi, he⟩ := Option.map_eq_some_iff.1 iDcl
  simp only [Prod.mk.injEq] at he
  obtain ⟨hz, hs, hb⟩ := he
  exact run_append_lies (P := Tryz.prog) w 23 ty lo 70 i _ 7 96 uDcl hi hz hs hb rfl (by decide) v n xs h ⟨B, 0, none⟩ 1 c (sevenD d p1 p2 c1 c2) rfl
    (World.news_of_block hB) (by simp [sevenD, Value.oneCell']) (by decide) (by simp only [maxLen]; omega) (by omega) hlo w.heap.size rfl

/-- One declaration more behind. -/
theorem DlIn.snoc {lo : Nat} {w w' : World} {v : Value} {l : List Dcl} {d : Dcl} {p1 p2 : Option Addr} {c1 c2 g cap : Nat} {xs : List Value} (hc : CellsD (fun b => (lo ≤ b ∧ v.ownBlock ≠ some b) ∧ b < w.heap.size) w l xs)
    (h1 : len d.T.2.2 ≤ c1) (h2 : len d.B.2.2 ≤ c2) (s1 : SlO (fun b => (lo ≤ b ∧ v.ownBlock ≠ some b) ∧ b < w.heap.size) w p1 d.T.2.2) (s2 : SlO (fun b => (lo ≤ b ∧ v.ownBlock ≠ some b) ∧ b < w.heap.size) w p2 d.B.2.2)
    (ho : w'.ownsRow lo 70 7 (.slice (some ⟨g, 0, none⟩) (l.length + 1) cap) (l.length + 1) (xs ++ sevenD d p1 p2 c1 c2)) (hg : w.grownBy w' v.ownBlock) (hat : v.ownBlock = some g ∨ g = w.heap.size) :
    DlIn lo w' (.slice (some ⟨g, 0, none⟩) (l.length + 1) cap) (l ++ [d]) := by
  refine ⟨xs ++ sevenD d p1 p2 c1 c2, by rw [List.length_append]; exact ho, (hc.push h1 h2 s1 s2).map fun {q f} hs => ?_⟩
  refine hs.along (fun b h => ⟨⟨h.1.1, fun e => ?_⟩, Nat.lt_of_lt_of_le h.2 hg.size⟩) fun b h => hg.block b h.2 (fun e => h.1.2 e.symm)
  obtain rfl : g = b := by simpa [Value.ownBlock] using e
  rcases hat with e | e
  · exact h.1.2 e
  · have := h.2
    omega
end Go.Proofs.YthfjmcomhccbaaaGreatDoor

namespace Go.Proofs.YthfjmcomhccbaaaGreatDoor
open Go.RowKit Tmx Evx
set_option maxRecDepth 60000

theorem DlIn.lt {lo : Nat} {w : World} {v : Value} {l : List Dcl} (h : DlIn lo w v l) {b : Nat} (hb : v.ownBlock = some b) : lo ≤ b ∧ b < w.heap.size := by
  obtain ⟨xs, h1, _⟩ := h
  obtain ⟨h2, cur, hc⟩ := ownsRow_blk h1 hb
  exact ⟨h2, hc.lt⟩

/-- A box beside the list is written. -/
theorem DlIn.wrote {lo B : Nat} {w : World} {v : Value} {l : List Dcl} {xs : List Value} (h1 : w.ownsRow lo 70 7 v l.length xs) (h2 : CellsD (fun b => ((lo ≤ b ∧ v.ownBlock ≠ some b) ∧ b < w.heap.size) ∧ b ≠ B) w l xs) (hB : v.ownBlock ≠ some B) (x y : Value) :
    DlIn lo ((w.setCell ⟨B, 0, none⟩ x).setCell ⟨B, 1, none⟩ y) v l := by
  have e : ∀ b, b ≠ B → ((w.setCell ⟨B, 0, none⟩ x).setCell ⟨B, 1, none⟩ y).heap[b]? = w.heap[b]? := fun b hb => by
    rw [Below.heap_setCell _ _ _ _ hb, Below.heap_setCell _ _ _ _ hb]
  have hz : ((w.setCell ⟨B, 0, none⟩ x).setCell ⟨B, 1, none⟩ y).heap.size = w.heap.size := by
    simp [World.setCell]
  refine ⟨xs, ownsRow_keep h1 fun b hb => e b (fun he => hB (he ▸ hb)), h2.map fun {q f} hs => hs.along (fun b h => ⟨h.1.1, by rw [hz]; exact h.1.2⟩) fun b h => e b h.2⟩

set_option maxHeartbeats 8000000 in
theorem dfurther_any (s cf fu lo : Nat) (l : List Dcl) (d : Dcl) (r : Bool) (v : Value) (p1 p2 : Option Addr) (c1 c2 : Nat) (w : World) (hv : DlIn lo w v l) (hT : len d.T.2.2 ≤ c1) (hB : len d.B.2.2 ≤ c2) (sT : SlO (old w) w p1 d.T.2.2) (sB : SlO (old w) w p2 d.B.2.2) (hN : NameOK d.nm w)
    (hF : Fits s cf fu l d r) (hs : small d) (hlo : lo ≤ w.heap.size) :
    Calls Tryz.prog 46 #[v, .agg (sevenD d p1 p2 c1 c2).toArray] w fun e w' => ∃ v', e = .returned (.tuple #[v', .agg #[.int .i64 (okE r), .int .i64 (if r then 0 else 2)]]) ∧ DlIn lo w' v' (if r then l ++ [d] else l) ∧ Below lo w w' := by
  obtain ⟨p, cap, rfl, hcap⟩ := hv.form
  have hown : ∀ b, Value.ownBlock (.slice p l.length cap) = some b → lo ≤ b ∧ b < w.heap.size := fun b hb => hv.lt hb
  have hv' := hv
  obtain ⟨xs, hx, hc⟩ : ∃ xs, w.ownsRow lo 70 7 (.slice p l.length cap) l.length xs ∧ CellsD (fun b => (lo ≤ b ∧ (Value.slice p l.length cap).ownBlock ≠ some b) ∧ b < w.heap.size) w l xs := hv'
  obtain ⟨n, hn⟩ : ∃ n, l.length = n := ⟨_, rfl⟩
  have hb2 : Below w.heap.size w ((w.alloc (.cells (sevenD d p1 p2 c1 c2).toArray 70)).alloc (.cells #[.int .i64 0, .int .i64 0] 40)) := ((Below.refl _ _).alloc (Nat.le_refl _) _).alloc (by simp) _
  have hd2 : Blk ((w.alloc (.cells (sevenD d p1 p2 c1 c2).toArray 70)).alloc (.cells #[.int .i64 0, .int .i64 0] 40)) w.heap.size (sevenD d p1 p2 c1 c2).toArray 70 := (Blk.new w _ _).alloc _
  have hv2 : Blk ((w.alloc (.cells (sevenD d p1 p2 c1 c2).toArray 70)).alloc (.cells #[.int .i64 0, .int .i64 0] 40)) (w.heap.size + 1) #[.int .i64 0, .int .i64 0] 40 := by
    have := Blk.new (w.alloc (.cells (sevenD d p1 p2 c1 c2).toArray 70)) #[.int .i64 0, .int .i64 0] 40
    rw [World.size_alloc] at this
    exact this
  have HV := verdict_any (s := s) (cf := cf) (fu := fu) (cap := cap) (hv.at.below hb2) hT hB (sT.below hb2) (sB.below hb2) (hN.below hb2) hF
  rw [hn] at HV
  generalize hW2 : (w.alloc (.cells (sevenD d p1 p2 c1 c2).toArray 70)).alloc (.cells #[.int .i64 0, .int .i64 0] 40) = W2 at *
  unfold sevenD at hW2
  have HX : Hid (w.ownsRow lo 70 7 (.slice p n cap) n xs ∧ CellsD (fun b => (lo ≤ b ∧ (Value.slice p n cap).ownBlock ≠ some b) ∧ b < w.heap.size) w l xs ∧ (∀ b, Value.ownBlock (.slice p n cap) = some b → lo ≤ b ∧ b < w.heap.size) ∧ lo ≤ w.heap.size ∧ n ≤ 1000) := ⟨hn ▸ hx, hn ▸ hc, hn ▸ hown, hlo, by have := hF.few; omega⟩
  have HS : Hid (DlIn lo W2 (.slice p l.length cap) l ∧ SlO (old W2) W2 p1 d.T.2.2 ∧ SlO (old W2) W2 p2 d.B.2.2 ∧ len d.T.2.2 ≤ c1 ∧ len d.B.2.2 ≤ c2 ∧ small d ∧ Below w.heap.size w W2 ∧ Blk W2 w.heap.size (sevenD d p1 p2 c1 c2).toArray 70 ∧ Blk W2 (w.heap.size + 1) #[.int .i64 0, .int .i64 0] 40 ∧ l.length = n) :=
    ⟨hv.below hb2, sT.below hb2, sB.below hb2, hT, hB, hs, hb2, hd2, hv2, hn⟩
  obtain ⟨⟨x0, x1, x2, x3, x4, x5, x6⟩, _⟩ := Blk.seven (w := W2) (b := w.heap.size) (T := 70) hd2
  rw [hn]
  unfold sevenD at *
  clear hv hT hB sT sB hN hF hs hb2 hd2 hv2 hn hcap hown hx hc hlo
  cases r with
  | false =>
    replace HV : Calls Tryz.prog 63 #[.slice p n cap, .agg #[.string ⟨d.nm.toArray⟩, .int .i64 d.T.1, .int .i64 d.T.2.1, .slice p1 (len d.T.2.2) c1, .int .i64 d.B.1, .int .i64 d.B.2.1, .slice p2 (len d.B.2.2) c2]] W2 fun e w' => e = .returned (.agg #[.int .i64 10, .int .i64 2]) ∧ Below W2.heap.size W2 w' := HV
    show Calls _ _ _ _ fun e w' => ∃ v', e = .returned (.tuple #[v', .agg #[.int .i64 10, .int .i64 2]]) ∧ DlIn lo w' v' l ∧ Below lo w w'
    go_enter Tryz.func46, Tryz.ntmps46
    go_wp2_with fail
    refine HV.mono ?_
    rintro e w3 ⟨rfl, hb3⟩
    have hb4 : Below W2.heap.size W2 (w3.alloc (.cells #[.int .i64 10, .int .i64 2] 40)) := hb3.alloc hb3.size _
    obtain ⟨e0, e1, _, _⟩ := (Blk.new w3 #[.int .i64 10, .int .i64 2] 40).two
    have HE : Hid (Blk (w3.alloc (.cells #[.int .i64 10, .int .i64 2] 40)) w3.heap.size #[.int .i64 10, .int .i64 2] 40 ∧ W2.heap.size ≤ w3.heap.size ∧ (w3.alloc (.cells #[.int .i64 10, .int .i64 2] 40)).heap.size = w3.heap.size + 1) := ⟨Blk.new w3 _ _, hb3.size, by simp⟩
    have HB4 := (show Hid _ from hb4)
    clear hb3 hb4 x0 x1 x2 x3 x4 x5 x6 HV
    obtain ⟨⟨y0, y1, y2, y3, y4, y5, y6⟩, _⟩ := Blk.seven (w := (w3.alloc (.cells #[.int .i64 10, .int .i64 2] 40))) (b := w.heap.size) (T := 70) (HS.out.2.2.2.2.2.2.2.1.below HB4.out)
    have HV4 : Hid (Blk (w3.alloc (.cells #[.int .i64 10, .int .i64 2] 40)) (w.heap.size + 1) #[.int .i64 0, .int .i64 0] 40) := HS.out.2.2.2.2.2.2.2.2.1.below HB4.out
    obtain ⟨u0, u1, f0, f1⟩ := HV4.out.two
    have hne : w3.heap.size ≠ w.heap.size + 1 := by have h1 := HS.out.2.2.2.2.2.2.2.2.1.lt; have := HE.out.2.1; omega
    go_wp2_with fail
    go_region
    go_wp2_with fail
    have hB4 : Below w.heap.size w (w3.alloc (.cells #[.int .i64 10, .int .i64 2] 40)) := HS.out.2.2.2.2.2.2.1.trans (HB4.out.mono HS.out.2.2.2.2.2.2.1.size)
    have hD : DlIn lo (((w3.alloc (.cells #[.int .i64 10, .int .i64 2] 40)).setCell ⟨w.heap.size + 1, 0, none⟩ (.int .i64 10)).setCell ⟨w.heap.size + 1, 1, none⟩ (.int .i64 2)).drew (.slice p n cap) l := by
      refine DlIn.below (DlIn.wrote (xs := xs) ?_ ?_ (fun e => by have := (HX.out.2.2.1 _ e).2; omega) _ _) (Below.refl _ _).drew
      · rw [HS.out.2.2.2.2.2.2.2.2.2]
        exact ownsRow_keep HX.out.1 fun b hb => hB4.block b (HX.out.2.2.1 b hb).2
      · exact HX.out.2.1.map fun {q f} hs => hs.along (fun b h => ⟨⟨h.1, Nat.lt_of_lt_of_le h.2 hB4.size⟩, by have := h.2; omega⟩) fun b h => hB4.block b h.2
    have hF : Below lo w (((w3.alloc (.cells #[.int .i64 10, .int .i64 2] 40)).setCell ⟨w.heap.size + 1, 0, none⟩ (.int .i64 10)).setCell ⟨w.heap.size + 1, 1, none⟩ (.int .i64 2)).drew := (((hB4.mono HX.out.2.2.2.1).setCell (by have := HX.out.2.2.2.1; show lo ≤ w.heap.size + 1; omega) _).setCell (by have := HX.out.2.2.2.1; show lo ≤ w.heap.size + 1; omega) _).drew
    obtain ⟨d0, d1, _, _⟩ := (HV4.out.set2 (.int .i64 10) (.int .i64 2)).two
    exact bodyPost_ret (v := .tuple #[.slice p n cap, .agg #[.int .i64 10, .int .i64 2]]) (by simp [results, Tryz.results46, go_sem, d0, d1]) rfl ⟨_, rfl, hD, hF⟩
  | true =>
    replace HV : Calls Tryz.prog 63 #[.slice p n cap, .agg #[.string ⟨d.nm.toArray⟩, .int .i64 d.T.1, .int .i64 d.T.2.1, .slice p1 (len d.T.2.2) c1, .int .i64 d.B.1, .int .i64 d.B.2.1, .slice p2 (len d.B.2.2) c2]] W2 fun e w' => e = .returned (.agg #[.int .i64 0, .int .i64 0]) ∧ Below W2.heap.size W2 w' := HV
    show Calls _ _ _ _ fun e w' => ∃ v', e = .returned (.tuple #[v', .agg #[.int .i64 0, .int .i64 0]]) ∧ DlIn lo w' v' (l ++ [d]) ∧ Below lo w w'
    go_enter Tryz.func46, Tryz.ntmps46
    go_wp2_with fail
    refine HV.mono ?_
    rintro e w3 ⟨rfl, hb3⟩
    have hb4 : Below W2.heap.size W2 (w3.alloc (.cells #[.int .i64 0, .int .i64 0] 40)) := hb3.alloc hb3.size _
    obtain ⟨e0, e1, _, _⟩ := (Blk.new w3 #[.int .i64 0, .int .i64 0] 40).two
    have HE : Hid (Blk (w3.alloc (.cells #[.int .i64 0, .int .i64 0] 40)) w3.heap.size #[.int .i64 0, .int .i64 0] 40 ∧ W2.heap.size ≤ w3.heap.size ∧ (w3.alloc (.cells #[.int .i64 0, .int .i64 0] 40)).heap.size = w3.heap.size + 1) := ⟨Blk.new w3 _ _, hb3.size, by simp⟩
    have HB4 := (show Hid _ from hb4)
    clear hb3 hb4 x0 x1 x2 x3 x4 x5 x6 HV
    obtain ⟨⟨y0, y1, y2, y3, y4, y5, y6⟩, _⟩ := Blk.seven (w := (w3.alloc (.cells #[.int .i64 0, .int .i64 0] 40))) (b := w.heap.size) (T := 70) (HS.out.2.2.2.2.2.2.2.1.below HB4.out)
    have HV4 : Hid (Blk (w3.alloc (.cells #[.int .i64 0, .int .i64 0] 40)) (w.heap.size + 1) #[.int .i64 0, .int .i64 0] 40) := HS.out.2.2.2.2.2.2.2.2.1.below HB4.out
    obtain ⟨u0, u1, f0, f1⟩ := HV4.out.two
    have hne : w3.heap.size ≠ w.heap.size + 1 := by have h1 := HS.out.2.2.2.2.2.2.2.2.1.lt; have := HE.out.2.1; omega
    have HO := own_any d (.agg #[.string ⟨d.nm.toArray⟩, .int .i64 d.T.1, .int .i64 d.T.2.1, .slice p1 (len d.T.2.2) c1, .int .i64 d.B.1, .int .i64 d.B.2.1, .slice p2 (len d.B.2.2) c2]) (w3.alloc (.cells #[.int .i64 0, .int .i64 0] 40)) ⟨p1, p2, c1, c2, rfl, HS.out.2.2.2.1, HS.out.2.2.2.2.1, HS.out.2.1.below HB4.out, HS.out.2.2.1.below HB4.out⟩ HS.out.2.2.2.2.2.1
    go_wp2_with fail
    refine HO.mono ?_
    rintro e w5 ⟨⟨v, rfl, q1, q2, b1, b2, rfl, k1, k2, k3, k4⟩, hb5⟩
    have hz4 : (w3.alloc (.cells #[.int .i64 0, .int .i64 0] 40)).heap.size = w3.heap.size + 1 := by simp
    have hB5 : Below w.heap.size w w5 := (HS.out.2.2.2.2.2.2.1.trans (HB4.out.mono HS.out.2.2.2.2.2.2.1.size)).trans (hb5.mono (by have := HE.out.2.1; have := HS.out.2.2.2.2.2.2.1.size; omega))
    have hb6 : Below w5.heap.size w5 (w5.alloc (.cells (sevenD d q1 q2 b1 b2).toArray 70)) := (Below.refl _ _).alloc (Nat.le_refl _) _
    have hB6 : Below w.heap.size w (w5.alloc (.cells (sevenD d q1 q2 b1 b2).toArray 70)) := hB5.trans (hb6.mono hB5.size)
    have hrow : (w5.alloc (.cells (sevenD d q1 q2 b1 b2).toArray 70)).ownsRow lo 70 7 (.slice p n cap) n xs := ownsRow_keep HX.out.1 fun b hb => hB6.block b (HX.out.2.2.1 b hb).2
    obtain ⟨g, cap7, w7, hrun, ho, hg, hat, hlt⟩ := append_decl _ lo _ n xs hrow w5.heap.size 1 d q1 q2 b1 b2 (Blk.new w5 _ _) (by have := HX.out.2.2.2.2; omega) (by have := HX.out.2.2.2.1; have := hB6.size; omega) 23
    have HR := (show Hid _ from hrun)
    have HG : Hid (w7.ownsRow lo 70 7 (.slice (some ⟨g, 0, none⟩) (n + 1) cap7) (n + 1) (xs ++ sevenD d q1 q2 b1 b2) ∧ (w5.alloc (.cells (sevenD d q1 q2 b1 b2).toArray 70)).grownBy w7 (Value.slice p n cap).ownBlock ∧ ((Value.slice p n cap).ownBlock = some g ∨ g = (w5.alloc (.cells (sevenD d q1 q2 b1 b2).toArray 70)).heap.size)) := ⟨ho, hg, hat⟩
    have HK : Hid (Below w.heap.size w (w5.alloc (.cells (sevenD d q1 q2 b1 b2).toArray 70)) ∧ len d.T.2.2 ≤ b1 ∧ len d.B.2.2 ≤ b2 ∧ SlO (fresh (w3.alloc (.cells #[.int .i64 0, .int .i64 0] 40)).heap.size) w5 q1 d.T.2.2 ∧ SlO (fresh (w3.alloc (.cells #[.int .i64 0, .int .i64 0] 40)).heap.size) w5 q2 d.B.2.2 ∧ Below w5.heap.size w5 (w5.alloc (.cells (sevenD d q1 q2 b1 b2).toArray 70)) ∧ Below (w3.alloc (.cells #[.int .i64 0, .int .i64 0] 40)).heap.size (w3.alloc (.cells #[.int .i64 0, .int .i64 0] 40)) w5 ∧ (w3.alloc (.cells #[.int .i64 0, .int .i64 0] 40)).heap.size = w3.heap.size + 1) := ⟨hB6, k1, k2, k3, k4, hb6, hb5, hz4⟩
    have hkeep : ∀ b cs T, Blk (w3.alloc (.cells #[.int .i64 0, .int .i64 0] 40)) b cs T → w.heap.size ≤ b → Blk w7 b cs T := fun b cs T hbk hle => by
      have h6 := (hbk.below hb5).below hb6
      exact h6.of_eq (hg.block b h6.lt fun e => by have := (HX.out.2.2.1 b e.symm).2; omega)
    have hv7 := hkeep _ _ _ HE.out.1 (by have := HE.out.2.1; have := HS.out.2.2.2.2.2.2.1.size; omega)
    have hr7 := hkeep _ _ _ HV4.out (by omega)
    obtain ⟨i0, i1, _, _⟩ := hv7.two
    obtain ⟨j0, j1, g0, g1⟩ := hr7.two
    unfold sevenD at HR ⊢
    clear hkeep hv7 hr7 hrun ho hg hat hlt hrow hB6 hb6 hB5 hz4 k1 k2 k3 k4 hb5 HO y0 y1 y2 y3 y4 y5 y6 u0 u1 f0 f1 e0 e1
    go_wp2_with (first | (at_builtin; refine wpList_app_run rfl _ _ 23 23 rfl _ _ _ rfl rfl HR.out ?_))
    go_region
    go_wp2_with fail
    obtain ⟨ho, hg, hat⟩ := HG.out
    obtain ⟨hB6, k1, k2, k3, k4, hb6, hb5, hz4⟩ := HK.out
    have hzz := HE.out.2.1
    have hz2 := HS.out.2.2.2.2.2.2.2.2.1.lt
    have hlo := HX.out.2.2.2.1
    have hown := HX.out.2.2.1
    have hz6 := hb6.size
    have hz5 := hb5.size
    have hnew : ∀ {q : Option Addr} {f : F}, SlO (fresh (w3.alloc (.cells #[.int .i64 0, .int .i64 0] 40)).heap.size) w5 q f → SlO (fun b => ((lo ≤ b ∧ (Value.slice p n cap).ownBlock ≠ some b) ∧ b < (w5.alloc (.cells (sevenD d q1 q2 b1 b2).toArray 70)).heap.size) ∧ b ≠ w.heap.size + 1) (w5.alloc (.cells (sevenD d q1 q2 b1 b2).toArray 70)) q f := fun {q f} hs => by
      have h := hs.and hs.lt
      refine h.along (fun b h => ?_) fun b h => hb6.block b h.2
      have h1 : (w3.alloc (.cells #[.int .i64 0, .int .i64 0] 40)).heap.size ≤ b := h.1
      have h2 : b < w5.heap.size := h.2
      exact ⟨⟨⟨by omega, fun e => by have := (hown b e).2; omega⟩, by omega⟩, by omega⟩
    have hcel : CellsD (fun b => ((lo ≤ b ∧ (Value.slice p n cap).ownBlock ≠ some b) ∧ b < (w5.alloc (.cells (sevenD d q1 q2 b1 b2).toArray 70)).heap.size) ∧ b ≠ w.heap.size + 1) (w5.alloc (.cells (sevenD d q1 q2 b1 b2).toArray 70)) (l ++ [d]) (xs ++ sevenD d q1 q2 b1 b2) :=
      (HX.out.2.1.map fun {q f} hs => hs.along (fun b h => ⟨⟨h.1, Nat.lt_of_lt_of_le h.2 hB6.size⟩, by have := h.2; omega⟩) fun b h => hB6.block b h.2).push k1 k2 (hnew k3) (hnew k4)
    have hgB : g ≠ w.heap.size + 1 := fun e => by
      rcases hat with h | h
      · have := (hown g h).2; omega
      · omega
    have hD : DlIn lo ((w7.setCell ⟨w.heap.size + 1, 0, none⟩ (.int .i64 0)).setCell ⟨w.heap.size + 1, 1, none⟩ (.int .i64 0)).drew (.slice (some ⟨g, 0, none⟩) (n + 1) cap7) (l ++ [d]) := by
      refine DlIn.below (DlIn.wrote (xs := xs ++ sevenD d q1 q2 b1 b2) ?_ ?_ (fun e => hgB (by simpa [Value.ownBlock] using e)) _ _) (Below.refl _ _).drew
      · rw [List.length_append, List.length_singleton, HS.out.2.2.2.2.2.2.2.2.2]
        exact ho
      · refine hcel.map fun {q f} hs => hs.along (fun b h => ⟨⟨⟨h.1.1.1, fun e => ?_⟩, Nat.lt_of_lt_of_le h.1.2 hg.size⟩, h.2⟩) fun b h => hg.block b h.1.2 fun e => h.1.1.2 e.symm
        obtain rfl : g = b := by simpa [Value.ownBlock] using e
        rcases hat with e | e
        · exact h.1.1.2 e
        · have := h.1.2; omega
    have hB7 : Below lo w w7 := (hB6.mono hlo).trans ⟨hg.os, hg.tape, hg.output, hg.size, fun k hk => hg.block k (by omega) fun e => by have := (hown k e.symm).1; omega⟩
    have hF : Below lo w ((w7.setCell ⟨w.heap.size + 1, 0, none⟩ (.int .i64 0)).setCell ⟨w.heap.size + 1, 1, none⟩ (.int .i64 0)).drew := ((hB7.setCell (by show lo ≤ w.heap.size + 1; omega) _).setCell (by show lo ≤ w.heap.size + 1; omega) _).drew
    have hr7 : Blk w7 (w.heap.size + 1) #[.int .i64 0, .int .i64 0] 40 := by
      have h6 := (HV4.out.below hb5).below hb6
      exact h6.of_eq (hg.block _ h6.lt fun e => by have := (hown _ e.symm).2; omega)
    obtain ⟨d0, d1, _, _⟩ := (hr7.set2 (.int .i64 0) (.int .i64 0)).two
    exact bodyPost_ret (v := .tuple #[.slice (some ⟨g, 0, none⟩) (n + 1) cap7, .agg #[.int .i64 0, .int .i64 0]]) (by simp [results, Tryz.results46, go_sem, d0, d1]) rfl ⟨_, rfl, hD, hF⟩
end Go.Proofs.YthfjmcomhccbaaaGreatDoor
