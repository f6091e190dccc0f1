/-
  Contracts: Height, Is, meant, further.
-/
/-
  Contracts: further, later, arg, Where, Later.
-/
/-
  Contracts: arg, Where, Maker.Later.
-/
import Derived.Test.YthfjmcomhccbaaaGreatDoorE1m
namespace Go.Proofs.YthfjmcomhccbaaaGreatDoor
open Go.RowKit Tmx Evx
set_option maxRecDepth 60000

theorem height_any (n : Int) (g : Gh) (w : World) (hi : Inv g w) :
    Calls Tryz.prog 156 #[.int .i64 n] w (LatP g w (.val (.mk 2 n []))) := by
  have hb : Below w.heap.size w (w.alloc (.cells #[.int .i64 2, .int .i64 n, .slice none 0 0] 88)) := (Below.refl _ _).alloc (Nat.le_refl _) _
  have h1 := Ste.below hi hb
  have h2 := h1.addV (v := .mk 2 n []) (Nat.le_refl _) (hi.v_new (Nat.le_refl _)) (hi.l_new (Nat.le_refl _)) ⟨none, 0, ⟨.inr rfl, Blk.new w _ _⟩, fun h => absurd (show 0 < 0 from h) (Nat.lt_irrefl 0)⟩
  have HC := known_any w.heap.size (.mk 2 n []) _ _ h2.inv (Gh.addV_at _ _ _)
  unfold ptr at HC
  go_enter Tryz.func156, Tryz.ntmps156
  go_wp2_with fail
  refine HC.mono ?_
  rintro e w1 ⟨g1, b, rfl, hs, hl⟩
  unfold ptr
  go_wp2_with fail
  refine bodyPost_ret (v := .pointer (some ⟨b, 0, none⟩)) (by simp [results, Tryz.results156, go_sem]) rfl ⟨g1, b, rfl, h2.trans hs, hl⟩

/-- A value's three cells. -/
theorem ValOK.cells {g : Gh} {w : World} {b : Nat} {v : V} (h : ValOK g w b v) : ∃ p cap, w.cell? ⟨b, 0, none⟩ = some (.int .i64 v.kind) ∧ w.cell? ⟨b, 1, none⟩ = some (.int .i64 v.num) ∧ w.cell? ⟨b, 2, none⟩ = some (.slice p v.args.length cap) ∧ ArgsAt g w p v.args := by
  obtain ⟨p, cap, hb, ha⟩ := h
  obtain ⟨c0, c1, c2, _⟩ := hb.2.three
  exact ⟨p, cap, c0, c1, c2, ha⟩

theorem is_any (q : Nat) (v : V) (k : Int) (m : Nat) (g : Gh) (w : World) (hi : Inv g w) (hv : g.v q = some v) :
    Calls Tryz.prog 21 #[ptr q, .int .i64 k, .int .i64 m] w fun e w' => e = .returned (.bool (v.is k m)) ∧ w' = w := by
  obtain ⟨p, cap, c0, _, c2, _⟩ := (hi.v q v hv).cells
  clear hi hv
  unfold Nd.is ptr
  cases e1 : (v.kind == k)
  · go_enter Tryz.func21, Tryz.ntmps21
    go_wp2_with fail
    refine bodyPost_ret (v := .bool false) (by simp [results, Tryz.results21, go_sem]) rfl ⟨rfl, rfl⟩
  · go_enter Tryz.func21, Tryz.ntmps21
    go_wp2_with fail
    refine bodyPost_ret (v := .bool (v.args.length == m)) (by simp [results, Tryz.results21, go_sem]; exact (by rw [Bool.eq_iff_iff, beq_iff_eq, beq_iff_eq]; omega : ((v.args.length : Int) == (m : Int)) = (v.args.length == m))) rfl ⟨rfl, rfl⟩

theorem meant_any (pm : Nat) (m : Mk) (n : Nat) (p : Value) (env : List Th) (g : Gh) (w : World) (hi : Inv g w) (hm : MkIs g w pm m) (he : EnvIs g w p env) (hn : n ≤ 1099511627776) (hb : mild m.bound = true) :
    Calls Tryz.prog 31 #[ptr pm, .int .i64 n, p] w (LatP g w (meant m.bound n env)) := by
  obtain ⟨pd, cap, hmb, _⟩ := hm
  obtain ⟨m0, m1, _, _⟩ := hmb.2.two
  clear hmb
  have HB : Hid (-1099511627776 ≤ m.bound ∧ m.bound ≤ 1099511627776) := (by simpa [mild] using hb : -1099511627776 ≤ m.bound ∧ m.bound ≤ 1099511627776)
  have HE : Hid (EnvIs g w p env) := he
  have HI : Hid (Inv g w) := hi
  clear hb he hi
  unfold ptr
  generalize hT : meant m.bound n env = T
  have HT : Hid (meant m.bound n env = T) := hT
  clear hT
  go_enter Tryz.func31, Tryz.ntmps31
  go_wp2_with fail
  go_loopg [1, 2] env.length (fun gg n' p' wr => ∃ (env' : List Th) (j : Nat), gg = env'.length ∧ n' = .int .i64 (j : Int) ∧ j ≤ 1099511627776 ∧ Hid (meant m.bound j env' = T) ∧ Hid (EnvIs g w p' env') ∧ wr = w)
  case atStart => exact ⟨env, n, rfl, rfl, hn, HT, HE, rfl⟩
  case round =>
    clear hn HT HE
    obtain ⟨env', j, hg, rfl, hj, HT, HE, rfl⟩ := hrel
    cases env' with
    | nil =>
      have he := HE.out
      unfold EnvIs at he
      subst he
      clear HE
      obtain ⟨hb1, hb2⟩ := HB.out
      have e1 : IntKind.i64.wrap (m.bound - 1) = m.bound - 1 := wrapI _ (by omega) (by omega)
      have e2 : IntKind.i64.wrap (m.bound - 1 - (j : Int)) = m.bound - 1 - (j : Int) := wrapI _ (by omega) (by omega)
      have HF := free_any (m.bound - 1 - j) g wr HI.out
      clear hg
      go_wp2_with fail
      refine HF.mono ?_
      rintro e w1 ⟨g1, b, rfl, hs, hl⟩
      unfold ptr
      go_wp2_with fail
      refine bodyPost_ret (v := .pointer (some ⟨b, 0, none⟩)) (by simp [results, Tryz.results31, go_sem]) rfl ⟨g1, b, rfl, hs, ?_⟩
      rw [hl, ← HT.out]; cases j <;> rfl
    | cons t env' =>
      obtain ⟨bb, x, q, rfl, hbb, ⟨bx, rfl, hx⟩, he⟩ := HE.out
      have HE' : Hid (EnvIs g wr q env') := he
      clear HE he
      obtain ⟨b0, b1, _, _⟩ := hbb.2.two
      have ht0 : Hid (meant m.bound j (t :: env') = T) := HT
      unfold ptr at *
      by_cases hj0 : j = 0
      · subst hj0
        go_wp2_with fail
        refine bodyPost_ret (v := .pointer (some ⟨bx, 0, none⟩)) (by simp [results, Tryz.results31, go_sem]) rfl ⟨g, bx, rfl, .refl HI.out, ?_⟩
        rw [hx, ← ht0.out]; rfl
      · have e1 : IntKind.i64.wrap ((j : Int) - 1) = ((j - 1 : Nat) : Int) := by rw [wrapI _ (by omega) (by omega)]; omega
        have hj1 : ¬ ((j : Int) = 0) := by omega
        go_wp2_with fail
        go_roundg env'.length
        case measure => rw [hg]; simp
        case rel =>
          refine ⟨env', j - 1, rfl, rfl, by omega, ?_, HE', rfl⟩
          have h0 := ht0.out
          obtain ⟨i, rfl⟩ : ∃ i, j = i + 1 := ⟨j - 1, by omega⟩
          exact h0
end Go.Proofs.YthfjmcomhccbaaaGreatDoor

namespace Go.Proofs.YthfjmcomhccbaaaGreatDoor
open Go.RowKit Tmx Evx
set_option maxRecDepth 60000

theorem RowL.at {g : Gh} {w : World} {p : Option Addr} {l : List Th} (h : RowL g w p l) {i : Nat} {t : Th} (e : l[i]? = some t) :
    ∃ b bx, p = some ⟨b, 0, none⟩ ∧ w.cell? ⟨b, i, none⟩ = some (.pointer (some ⟨bx, 0, none⟩)) ∧ g.l bx = some t := by
  have hl : i < l.length := (List.getElem?_eq_some_iff.1 e).1
  obtain ⟨b, cs, hp, hb, hi⟩ := h (by omega)
  obtain ⟨x, hx, bx, rfl, hbx⟩ := hi i t e
  exact ⟨b, bx, hp, by rw [hb.cell]; exact hx, hbx⟩
theorem RowL.below {g : Gh} {w w' : World} (hb : Below w.heap.size w w') {p : Option Addr} {l : List Th} (h : RowL g w p l) : RowL g w' p l := fun h0 => by
  obtain ⟨b, cs, e, hb', hi⟩ := h h0
  exact ⟨b, cs, e, hb'.below hb, hi⟩
theorem EnvIs.pointer {g : Gh} {w : World} : ∀ {env : List Th} {p : Value}, EnvIs g w p env → ∃ x, p = .pointer x
  | [], _, h => ⟨_, h⟩
  | _ :: _, _, ⟨_, _, _, h, _⟩ => ⟨_, h⟩

theorem RowL.keep {g : Gh} {w w' : World} (hi : Inv g w) (hk : Keep g w w') {p : Option Addr} {l : List Th} (h : RowL g w p l) : RowL g w' p l := fun h0 => by
  obtain ⟨b, cs, e, hb', hl⟩ := h h0
  exact ⟨b, cs, e, hk.blk hb' (hi.not_l hb' (by decide)), hl⟩
set_option maxHeartbeats 400000 in
theorem further_any (p : Value) (env : List Th) (q : Option Addr) (cap : Nat) (l : List Th) (g : Gh) (w : World) (hi : Inv g w) (he : EnvIs g w p env) (hr : RowL g w q l) (hl : l.length ≤ 1099511627776) :
    Calls Tryz.prog 24 #[p, .slice q l.length cap] w fun e w' => ∃ g' p', e = .returned p' ∧ Ste g w g' w' ∧ EnvIs g' w' p' (l.reverse ++ env) := by
  have HE : Hid (EnvIs g w p env) := he
  have HR : Hid (RowL g w q l) := hr
  have HI : Hid (Inv g w) := hi
  clear he hr hi
  go_enter Tryz.func24, Tryz.ntmps24
  go_wp2_with fail
  go_loopg [0, 9] l.length (fun gg in' i wr => ∃ (j : Nat) (g1 : Gh), gg = l.length - j ∧ j ≤ l.length ∧ i = .int .i64 (j : Int) ∧ Ste g w g1 wr ∧ Hid (EnvIs g1 wr in' ((l.take j).reverse ++ env)))
  case atStart => exact ⟨0, g, rfl, Nat.zero_le _, rfl, .refl HI.out, by simpa using HE⟩
  case round =>
    obtain ⟨j, g1, hg, hj, rfl, hs, hE⟩ := hrel
    obtain ⟨x0, rfl⟩ := hE.out.pointer
    by_cases hlt : j < l.length
    · obtain ⟨t, ht⟩ : ∃ t, l[j]? = some t := ⟨_, List.getElem?_eq_getElem hlt⟩
      have HT : Hid (l[j]? = some t) := ht
      obtain ⟨b, bx, rfl, hc, hbx⟩ := (RowL.keep HI.out hs.keep HR.out).at ht
      clear ht
      go_wp2_with fail
      go_roundg (l.length - (j + 1))
      case rel =>
        have hN : Below wr.heap.size wr (wr.alloc (.cells #[.pointer (some ⟨bx, 0, none⟩), .pointer x0] 95)) := (Below.refl _ _).alloc (Nat.le_refl _) _
        obtain ⟨h2, hm⟩ := hs.grow hN (fun b => b = wr.heap.size) (fun b h => by subst h; simp)
        refine ⟨j + 1, _, rfl, hlt, by go_num, h2, ?_⟩
        have e : (l.take (j + 1)).reverse ++ env = t :: ((l.take j).reverse ++ env) := by
          rw [List.take_add_one, HT.out]; simp
        show EnvIs _ _ _ _
        rw [e]
        exact ⟨_, _, _, rfl, ⟨.inr rfl, Blk.new _ _ _⟩, ⟨bx, rfl, hs.le.l _ _ hbx⟩, hE.out.along hm⟩
      case measure => omega
    · have e : j = l.length := by omega
      have HQ : Hid (EnvIs g1 wr (.pointer x0) (l.reverse ++ env)) := by
        have := hE.out
        rw [e, List.take_length] at this
        exact this
      clear hE e
      go_wp2_with fail
      refine bodyPost_ret (v := .pointer x0) (by simp [results, Tryz.results24, go_sem]) rfl ⟨g1, _, rfl, hs, HQ.out⟩

theorem lay1 (w : World) (a : Array Value) (A : TypeId) : ∃ W, w.alloc (.cells a A) = W ∧ Below w.heap.size w W ∧ Blk W w.heap.size a A ∧ W.heap.size = w.heap.size + 1 :=
  ⟨_, rfl, (Below.refl _ _).alloc (Nat.le_refl _) _, Blk.new _ _ _, by simp⟩
theorem lay2 (w : World) (a b : Array Value) (A B : TypeId) : ∃ W, (w.alloc (.cells a A)).alloc (.cells b B) = W ∧ Below w.heap.size w W ∧ Blk W w.heap.size a A ∧ Blk W (w.heap.size + 1) b B ∧ W.heap.size = w.heap.size + 2 := by
  obtain ⟨W, rfl, h1, b1, z1⟩ := lay1 w a A
  obtain ⟨W', rfl, h2, b2, z2⟩ := lay1 (w.alloc (.cells a A)) b B
  exact ⟨_, rfl, h1.trans (h2.mono (by omega)), b1.below h2, z1 ▸ b2, by omega⟩
theorem lay3 (w : World) (a b c : Array Value) (A B C : TypeId) : ∃ W, ((w.alloc (.cells a A)).alloc (.cells b B)).alloc (.cells c C) = W ∧ Below w.heap.size w W ∧ Blk W w.heap.size a A ∧ Blk W (w.heap.size + 1) b B ∧ Blk W (w.heap.size + 1 + 1) c C ∧ W.heap.size = w.heap.size + 3 := by
  obtain ⟨W, rfl, h1, b1, b1', z1⟩ := lay2 w a b A B
  obtain ⟨W', rfl, h2, b2, z2⟩ := lay1 ((w.alloc (.cells a A)).alloc (.cells b B)) c C
  exact ⟨_, rfl, h1.trans (h2.mono (by omega)), b1.below h2, b1'.below h2, z1 ▸ b2, by omega⟩
theorem lay4 (w : World) (a b c d : Array Value) (A B C D : TypeId) : ∃ W, (((w.alloc (.cells a A)).alloc (.cells b B)).alloc (.cells c C)).alloc (.cells d D) = W ∧ Below w.heap.size w W ∧ Blk W w.heap.size a A ∧ Blk W (w.heap.size + 1) b B ∧ Blk W (w.heap.size + 1 + 1) c C ∧ Blk W (w.heap.size + 1 + 1 + 1) d D ∧ W.heap.size = w.heap.size + 4 := by
  obtain ⟨W, rfl, h1, b1, b1', b1'', z1⟩ := lay3 w a b c A B C
  obtain ⟨W', rfl, h2, b2, z2⟩ := lay1 (((w.alloc (.cells a A)).alloc (.cells b B)).alloc (.cells c C)) d D
  exact ⟨_, rfl, h1.trans (h2.mono (by omega)), b1.below h2, b1'.below h2, b1''.below h2, z1 ▸ b2, by omega⟩

/-- Three boxes that a closure captures. -/
theorem lay_cap {g : Gh} {w W : World} (hi : Inv g w) {pm tb to : Nat} {m : Mk} {k n : Int} {f : F} {p : Value} {env : List Th} (hm : MkIs g w pm m) (ht : TmAt g.o w tb to k n f) (he : EnvIs g w p env) (hb : Below w.heap.size w W)
    (B1 : Blk W w.heap.size #[.pointer (some ⟨pm, 0, none⟩)] 44) (B2 : Blk W (w.heap.size + 1) #[.pointer (some ⟨tb, to, none⟩)] 47) (B3 : Blk W (w.heap.size + 1 + 1) #[p] 71) :
    ∃ g1, Ste g w g1 W ∧ Mor g w g1 W ∧ CapIs g1 W w.heap.size (w.heap.size + 1) (w.heap.size + 1 + 1) m k n f env ∧ (∀ b, w.heap.size + 3 ≤ b → ¬ g1.o b) := by
  have hz := B3.lt
  obtain ⟨h1, hmo⟩ := (Ste.refl hi).grow hb (fun b => b = w.heap.size ∨ b = w.heap.size + 1 ∨ b = w.heap.size + 1 + 1) (fun b h => by omega)
  refine ⟨_, h1, hmo, ⟨pm, tb, to, p, ⟨.inr (.inl rfl), B1⟩, ⟨.inr (.inr (.inl rfl)), B2⟩, ⟨.inr (.inr (.inr rfl)), B3⟩, hm.along hmo, ht.mor hmo, he.along hmo⟩, fun b hb' h => ?_⟩
  rcases h with h | h
  · exact absurd (hi.o b h).2 (by omega)
  · omega

set_option maxHeartbeats 800000 in
theorem later_any (pm tb to : Nat) (m : Mk) (k n : Int) (f : F) (p : Value) (env : List Th) (g : Gh) (w : World) (hi : Inv g w) (hm : MkIs g w pm m) (ht : TmAt g.o w tb to k n f) (he : EnvIs g w p env)
    (hn : k = 1 → 0 ≤ n ∧ n ≤ 1099511627776 ∧ mild m.bound = true) :
    Calls Tryz.prog 23 #[ptr pm, .pointer (some ⟨tb, to, none⟩), p] w (LatP g w (later m k n f env)) := by
  obtain ⟨x0, rfl⟩ := he.pointer
  unfold ptr
  obtain ⟨W, hW, hb, B1, B2, B3, hz⟩ := lay3 w #[.pointer (some ⟨pm, 0, none⟩)] #[.pointer (some ⟨tb, to, none⟩)] #[.pointer x0] 44 47 71
  obtain ⟨g1, hs0, hmo, hcap, _⟩ := lay_cap hi hm ht he hb B1 B2 B3
  have HS : Hid (Ste g w g1 W) := hs0
  have HT : Hid (TmAt g1.o W tb to k n f) := ht.mor hmo
  have HB : Hid (Blk W w.heap.size #[.pointer (some ⟨pm, 0, none⟩)] 44 ∧ Blk W (w.heap.size + 1) #[.pointer (some ⟨tb, to, none⟩)] 47 ∧ Blk W (w.heap.size + 1 + 1) #[.pointer x0] 71) := ⟨B1, B2, B3⟩
  have HK : Hid (MkIs g1 W pm m ∧ EnvIs g1 W (.pointer x0) env ∧ CapIs g1 W w.heap.size (w.heap.size + 1) (w.heap.size + 1 + 1) m k n f env) := ⟨hm.along hmo, he.along hmo, hcap⟩
  obtain ⟨_, q, cap, t0, t1, t2, hs⟩ := HT.out
  obtain ⟨a1, a2⟩ := B1.one
  obtain ⟨b1, b2⟩ := B2.one
  obtain ⟨c1, c2⟩ := B3.one
  clear hi hm ht he hb hs0 hmo hcap
  by_cases hk : k = 1
  · obtain ⟨hn0, hn1, hb1⟩ := hn hk
    have tk : (k == 1) = true := by simpa using hk
    have MT : Hid (later m k n f env = meant m.bound n.toNat env) := by unfold later; rw [if_pos hk]; rfl
    obtain ⟨j, rfl⟩ : ∃ j : Nat, n = (j : Int) := ⟨n.toNat, by omega⟩
    have HMd : Calls Tryz.prog 31 #[.pointer (some ⟨pm, 0, none⟩), .int .i64 (j : Int), .pointer x0] W.drew (LatP g1 W (meant m.bound j env)) := by
      have hd := Ste.drew HS.out.inv
      have h := meant_any pm m j (.pointer x0) env g1 W.drew hd.inv (HK.out.1.along (hd.mor HS.out.inv)) (HK.out.2.1.along (hd.mor HS.out.inv)) (by omega) hb1
      refine h.mono ?_
      rintro e w1 ⟨g1, b, rfl, hs, hl⟩
      exact ⟨g1, b, rfl, hd.trans hs, hl⟩
    clear hk hn
    go_enter Tryz.func23, Tryz.ntmps23
    go_wp2_with fail
    go_region_held3 (fun w' => w'.cell? ⟨w.heap.size, 0, none⟩ = some (.pointer (some ⟨pm, 0, none⟩)) ∧ w'.cell? ⟨w.heap.size + 1, 0, none⟩ = some (.pointer (some ⟨tb, to, none⟩)) ∧ w'.cell? ⟨w.heap.size + 1 + 1, 0, none⟩ = some (.pointer x0) ∧ w'.cell? ⟨tb, to + 1, none⟩ = some (.int .i64 (j : Int))) (go_keep)
      (first | (go_at_call 31; refine HMd.mono ?_; rintro e w1 ⟨g2, b, rfl, hs, hl⟩; obtain ⟨d1, _⟩ := (hs.keep.blk HB.out.1 (HS.out.inv.not_l HB.out.1 (by decide))).one; obtain ⟨d2, _⟩ := (hs.keep.blk HB.out.2.1 (HS.out.inv.not_l HB.out.2.1 (by decide))).one; obtain ⟨d3, _⟩ := (hs.keep.blk HB.out.2.2 (HS.out.inv.not_l HB.out.2.2 (by decide))).one; obtain ⟨_, _, _, _, d4, _, _⟩ := HT.out.mor (hs.mor HS.out.inv); unfold ptr))
    go_wp2_with fail
    refine bodyPost_ret (v := .pointer (some ⟨b, 0, none⟩)) (by simp [results, Tryz.results23, go_sem]) rfl ⟨g2, b, rfl, HS.out.trans hs, ?_⟩
    rw [hl, MT.out]; rfl
  · have tk : (k == 1) = false := by simpa using hk
    have MT : Hid (later m k n f env = .tm m k n f env) := by unfold later; rw [if_neg hk]; rfl
    clear hk hn HB
    go_enter Tryz.func23, Tryz.ntmps23
    go_wp2_with fail
    have hL : Below W.heap.size W (W.alloc (.cells #[.func (.func 32) #[] #[.pointer (some ⟨w.heap.size, 0, none⟩), .pointer (some ⟨w.heap.size + 1, 0, none⟩), .pointer (some ⟨w.heap.size + 1 + 1, 0, none⟩)], .pointer none] 85)) := (Below.refl _ _).alloc (Nat.le_refl _) _
    have s2 := HS.out.growL hL (b := W.heap.size) (t := .tm m k n f env) (Nat.le_refl _) (.inr ⟨_, Blk.new _ _ _, ⟨_, _, _, rfl⟩, ⟨_, _, _, _, .inl rfl, rfl, HK.out.2.2.along (Mor.growL HS.out.inv hL _ (Nat.le_refl _))⟩⟩)
    refine bodyPost_ret (v := .pointer (some ⟨W.heap.size, 0, none⟩)) (by simp [results, Tryz.results23, go_sem, hz]) rfl ⟨_, W.heap.size, rfl, s2, ?_⟩
    rw [MT.out]; exact Gh.addL_at _ _ _
end Go.Proofs.YthfjmcomhccbaaaGreatDoor

namespace Go.Proofs.YthfjmcomhccbaaaGreatDoor
open Go.RowKit Tmx Evx
set_option maxRecDepth 60000

/-- The caller's own block, behind a call. -/
theorem Ste.mine {g g1 g2 : Gh} {w w1 w2 : World} (_h : Ste g w g1 w1) (k : Ste g1 w1 g2 w2) {b : Nat} (hb : b < w1.heap.size) (hl : g1.l b = none) (ho : ¬ g1.o b) : g2.l b = none ∧ ¬ g2.o b ∧ w2.heap[b]? = w1.heap[b]? :=
  ⟨k.le.ln b hb hl, fun e => ho (k.le.on b hb e), k.keep.block b hb hl⟩

theorem Ste.set2 {g g' : Gh} {w w' : World} (h : Ste g w g' w') {b : Nat} (hb : w.heap.size ≤ b) (hl : g'.l b = none) (ho : ¬ g'.o b) (x y : Value) : Ste g w g' ((w'.setCell ⟨b, 0, none⟩ x).setCell ⟨b, 1, none⟩ y) :=
  Ste.setCell (Ste.setCell h (x := ⟨b, 0, none⟩) hb hl ho x) (x := ⟨b, 1, none⟩) hb hl ho y
theorem Mor.set2 {g : Gh} {w : World} {b : Nat} (ho : ¬ g.o b) (x y : Value) : Mor g w g ((w.setCell ⟨b, 0, none⟩ x).setCell ⟨b, 1, none⟩ y) :=
  ⟨fun _ _ e => e, fun _ _ e => e, fun _ e => e, fun k hk => by
    have hne : k ≠ b := fun e => ho (e ▸ hk)
    rw [Below.heap_setCell _ _ _ _ hne, Below.heap_setCell _ _ _ _ hne]⟩

set_option maxHeartbeats 800000 in
theorem arg_any (pm tb to : Nat) (m : Mk) (k n binds : Int) (f : F) (p : Value) (env : List Th) (g : Gh) (w : World) (hi : Inv g w) (hm : MkIs g w pm m) (ht : TmAt g.o w tb to k n f) (he : EnvIs g w p env)
    (hn : k = 1 → 0 ≤ n ∧ n ≤ 1099511627776 ∧ mild m.bound = true) :
    Calls Tryz.prog 50 #[ptr pm, .pointer (some ⟨tb, to, none⟩), p, .int .i64 binds] w fun e w' => ∃ g' x u, e = .returned (.agg #[x, u]) ∧ Ste g w g' w' ∧ ArIs g' w' x u (argOf m k n f env binds) := by
  obtain ⟨x0, rfl⟩ := he.pointer
  unfold ptr
  obtain ⟨W, hW, hb, B1, B2, B3, B4, hz⟩ := lay4 w #[.pointer (some ⟨pm, 0, none⟩)] #[.pointer (some ⟨tb, to, none⟩)] #[.pointer x0] #[.pointer none, .nilFunc] 44 47 71 91
  obtain ⟨g1, hs0, hmo, hcap, hno⟩ := lay_cap hi hm ht he hb B1 B2 B3
  have HS : Hid (Ste g w g1 W) := hs0
  have HN : Hid (∀ b, w.heap.size + 3 ≤ b → ¬ g1.o b) := hno
  have HK : Hid (MkIs g1 W pm m ∧ TmAt g1.o W tb to k n f ∧ EnvIs g1 W (.pointer x0) env ∧ CapIs g1 W w.heap.size (w.heap.size + 1) (w.heap.size + 1 + 1) m k n f env) := ⟨hm.along hmo, ht.mor hmo, he.along hmo, hcap⟩
  have HB4 : Hid (Blk W (w.heap.size + 1 + 1 + 1) #[.pointer none, .nilFunc] 91) := B4
  obtain ⟨a1, a2⟩ := B1.one
  obtain ⟨b1, b2⟩ := B2.one
  obtain ⟨c1, c2⟩ := B3.one
  obtain ⟨d0, d1, d2, d3⟩ := B4.two
  clear hi hm ht he hb hs0 hmo hcap hno
  by_cases hk : binds = 0
  · have tk : (binds == 0) = true := by simpa using hk
    have MT : Hid (argOf m k n f env binds = .plain (later m k n f env)) := by unfold argOf; rw [if_pos hk]; rfl
    have HM := later_any pm tb to m k n f (.pointer x0) env g1 W HS.out.inv HK.out.1 HK.out.2.1 HK.out.2.2.1 hn
    unfold ptr at HM
    clear hk hn
    go_enter Tryz.func50, Tryz.ntmps50
    go_wp2_with fail
    refine HM.mono ?_
    rintro e w1 ⟨g2, b, rfl, hs, hl⟩
    obtain ⟨hl2, ho2, hsame⟩ := HS.out.mine hs HB4.out.lt (HS.out.inv.not_l HB4.out (by decide)) (HN.out _ (by omega))
    have HB5 := HB4.out.of_eq hsame
    obtain ⟨e0, e1, e2, e3⟩ := HB5.two
    unfold ptr
    go_wp2_with fail
    obtain ⟨f0, f1, _, _⟩ := (HB5.set2 (.pointer (some ⟨b, 0, none⟩)) .nilFunc).two
    refine bodyPost_ret (v := .agg #[.pointer (some ⟨b, 0, none⟩), .nilFunc]) (by simp [results, Tryz.results50, go_sem, f0, f1]) rfl ⟨g2, _, _, rfl, Ste.set2 (HS.out.trans hs) (by omega) hl2 ho2 _ _, ?_⟩
    rw [MT.out]; exact ⟨⟨b, rfl, hl⟩, rfl⟩
  · have tk : (binds == 0) = false := by simpa using hk
    have MT : Hid (argOf m k n f env binds = .under m k n f env) := by unfold argOf; rw [if_neg hk]; rfl
    clear hk hn
    go_enter Tryz.func50, Tryz.ntmps50
    go_wp2_with fail
    have hl2 := HS.out.inv.not_l HB4.out (by decide)
    have ho2 := HN.out (w.heap.size + 1 + 1 + 1) (by omega)
    obtain ⟨f0, f1, _, _⟩ := (HB4.out.set2 (.pointer none) (.func (.func 65) #[] #[.pointer (some ⟨w.heap.size + 1 + 1, 0, none⟩), .pointer (some ⟨w.heap.size, 0, none⟩), .pointer (some ⟨w.heap.size + 1, 0, none⟩)])).two
    refine bodyPost_ret (v := .agg #[.pointer none, .func (.func 65) #[] #[.pointer (some ⟨w.heap.size + 1 + 1, 0, none⟩), .pointer (some ⟨w.heap.size, 0, none⟩), .pointer (some ⟨w.heap.size + 1, 0, none⟩)]]) (by simp [results, Tryz.results50, go_sem, f0, f1]) rfl ⟨g1, _, _, rfl, Ste.set2 HS.out (by omega) hl2 ho2 _ _, ?_⟩
    rw [MT.out]
    exact ⟨rfl, _, _, _, rfl, HK.out.2.2.2.along (Mor.set2 ho2 _ _)⟩

theorem where_any (pm : Nat) (m : Mk) (n : Int) (g : Gh) (w : World) (hi : Inv g w) (hm : MkIs g w pm m) :
    Calls Tryz.prog 167 #[ptr pm, .int .i64 n] w fun e w' => ∃ g' b, e = .returned (ptr b) ∧ Ste g w g' w' ∧ MkIs g' w' b ⟨n, m.b0, m.D⟩ := by
  obtain ⟨pd, cap, hmb, hr, ho⟩ := hm
  obtain ⟨m0, m1, _, _⟩ := hmb.2.two
  have hN : Below w.heap.size w (w.alloc (.cells #[.int .i64 n, .slice pd m.D.length cap] 67)) := (Below.refl _ _).alloc (Nat.le_refl _) _
  obtain ⟨h2, hmo⟩ := (Ste.refl hi).grow hN (fun b => b = w.heap.size) (fun b h => by subst h; simp)
  have HM : Hid (MkIs (g.addO fun b => b = w.heap.size) (w.alloc (.cells #[.int .i64 n, .slice pd m.D.length cap] 67)) w.heap.size ⟨n, m.b0, m.D⟩) := by
    have h0 := MkIs.along hmo ⟨pd, cap, hmb, hr, ho⟩
    obtain ⟨pd', cap', hmb', hr', ho'⟩ := h0
    have e := hmb'.2.cell 1
    rw [(hmb.along hmo).2.cell 1] at e
    simp only [List.getElem?_toArray, List.getElem?_cons_succ, List.getElem?_cons_zero, Option.some.injEq, Value.slice.injEq] at e
    obtain ⟨rfl, _, rfl⟩ := e
    exact ⟨pd, cap, ⟨.inr rfl, Blk.new _ _ _⟩, hr', ho'⟩
  have HS : Hid (Ste g w (g.addO fun b => b = w.heap.size) (w.alloc (.cells #[.int .i64 n, .slice pd m.D.length cap] 67))) := h2
  clear hr ho hmb hmo h2 hN hi
  unfold ptr
  go_enter Tryz.func167, Tryz.ntmps167
  go_wp2_with fail
  refine bodyPost_ret (v := .pointer (some ⟨w.heap.size, 0, none⟩)) (by simp [results, Tryz.results167, go_sem]) rfl ⟨_, _, rfl, HS.out, HM.out⟩

theorem mlater_any (pm tb to : Nat) (m : Mk) (k n : Int) (f : F) (q : Option Addr) (cap : Nat) (l : List Th) (g : Gh) (w : World) (hi : Inv g w) (hm : MkIs g w pm m) (ht : TmAt g.o w tb to k n f) (hr : RowL g w q l) (hl : l.length ≤ 1099511627776)
    (hn : k = 1 → 0 ≤ n ∧ n ≤ 1099511627776 ∧ mild m.bound = true) :
    Calls Tryz.prog 15 #[ptr pm, .pointer (some ⟨tb, to, none⟩), .slice q l.length cap] w (LatP g w (later m k n f l.reverse)) := by
  have HF := further_any (.pointer none) [] q cap l g w hi rfl hr hl
  have HK : Hid (Inv g w ∧ MkIs g w pm m ∧ TmAt g.o w tb to k n f) := ⟨hi, hm, ht⟩
  clear hi hm ht hr
  unfold ptr
  go_enter Tryz.func15, Tryz.ntmps15
  go_wp2_with fail
  refine HF.mono ?_
  rintro e w1 ⟨g1, p1, rfl, hs, he⟩
  have hmo := hs.mor HK.out.1
  have HL := later_any pm tb to m k n f p1 _ g1 w1 hs.inv (HK.out.2.1.along hmo) (HK.out.2.2.mor hmo) he hn
  unfold ptr at HL
  clear HF hmo he
  go_wp2_with fail
  refine HL.mono ?_
  rintro e w2 ⟨g2, b, rfl, hs2, hl2⟩
  unfold ptr
  go_wp2_with fail
  refine bodyPost_ret (v := .pointer (some ⟨b, 0, none⟩)) (by simp [results, Tryz.results15, go_sem]) rfl ⟨g2, b, rfl, hs.trans hs2, ?_⟩
  rw [List.append_nil] at hl2
  exact hl2
end Go.Proofs.YthfjmcomhccbaaaGreatDoor
