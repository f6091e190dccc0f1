/-
  The program's reader: an argument, ahead of it the names that it has bound.
-/
import Derived.Test.YthfjmcomhccbaaaGreatDoorVX5m
namespace Go.Proofs.YthfjmcomhccbaaaGreatDoor
open Go.RowKit Tmx
set_option maxRecDepth 60000

/-- What a call that reads a term leaves. -/
def TermPost (lo r : Nat) (ds ns : List (List UInt8)) (w : World) (v : Value) (res : GotK) (e : Ending) (w' : World) : Prop :=
  KB r v w w' ∧ ∃ ws' ns' v', RS lo r w' ws' ns' ds v' ∧ OwnNew w v v' ∧ match res with
    | .error x => e = .returned (.tuple #[.agg #[.int .i64 0, .int .i64 0, .slice none 0 0], .int .i64 x]) ∧ x ≠ 0 ∧ ns.length ≤ ns'.length
    | .ok (t, rest) => ws' = rest ∧ ns' = ns ∧ ∃ p, ∃ (cap : {c : Nat // len t.2.2 ≤ c}), e = .returned (.tuple #[.agg #[.int .i64 t.1, .int .i64 t.2.1, .slice p (len t.2.2) cap], .int .i64 0]) ∧ SlQ (fun b => w.heap.size ≤ b ∧ v'.ownBlock ≠ some b) w' p t.2.2
/-- Words that are not too long, and not empty. -/
def Short (ws : List (List UInt8)) : Prop := ∀ x ∈ ws, x ≠ [] ∧ x.length ≤ 1500
theorem Short.tail {x : List UInt8} {ws : List (List UInt8)} (h : Short (x :: ws)) : Short ws := fun y hy => h y (List.mem_cons_of_mem _ hy)
theorem Short.head {x : List UInt8} {ws : List (List UInt8)} (h : Short (x :: ws)) : x ≠ [] ∧ x.length ≤ 1500 := h x (by simp)
theorem Short.suf {ts us : List (List UInt8)} (h : Short ts) (hs : us <:+ ts) : Short us := fun w hw => h w (hs.mem hw)
/-- The reader at depth n. -/
def TermP (ds : List (List UInt8)) (n : Nat) : Prop := ∀ (lo r : Nat) (w : World) (ws ns : List (List UInt8)) (v : Value), RS lo r w ws ns ds v → Short ws → ns.length ≤ 8 →
  Calls Tryz.prog 78 #[.pointer (some ⟨r, 0, none⟩), .int .i64 (24 - (n : Int))] w (TermPost lo r ds ns w v (termK ds n ns ws))
/-- Names, and the argument behind them. -/
def argK (T : List (List UInt8) → List (List UInt8) → GotK) (m : Nat) (ns ws : List (List UInt8)) : GotK := andX (namesK m ns ws) fun p => if 8 < p.1.length then .error 5 else T p.1 p.2

theorem namesK_suf : ∀ (m : Nat) (ns ts : List (List UInt8)) (p : List (List UInt8) × List (List UInt8)), namesK m ns ts = .ok p → p.2 <:+ ts
  | 0, _, _, p, h => by
    rw [namesK] at h
    cases h
    exact List.suffix_refl _
  | m + 1, _, [], p, h => by rw [namesK] at h; cases h
  | m + 1, ns, x :: r, p, h => by
    rw [namesK] at h
    split at h
    · exact (namesK_suf m _ _ _ h).trans (List.suffix_cons _ _)
    · cases h

theorem own_eq (p : Option Addr) (n m c d : Nat) : (Value.slice p n c).ownBlock = (Value.slice p m d).ownBlock := by cases p <;> rfl
theorem RS.setO {lo r : Nat} {w : World} {ws ns ds : List (List UInt8)} {v : Value} (h : RS lo r w ws ns ds v) {x : Addr} (hx : x.block ≠ r) (ho : v.ownBlock ≠ some x.block) (hl : lo ≤ x.block) (u : Value) : RS lo r (w.setCell x u) ws ns ds v :=
  h.along (Below.heap_setCell _ _ _ _ (Ne.symm hx)) (fun b e => Below.heap_setCell _ _ _ _ (fun e2 => ho (by rw [← e2]; exact e))) (fun b hb _ => Below.heap_setCell _ _ _ _ (by omega))
theorem KB.setNew {r : Nat} {v : Value} {w w' : World} (h : KB r v w w') {x : Addr} (hx : w.heap.size ≤ x.block) (u : Value) : KB r v w (w'.setCell x u) :=
  ⟨h.os, h.tape, h.output, by have := h.size; simpa [World.setCell] using this, fun k hk hr hv => by rw [Below.heap_setCell _ _ _ _ (by omega)]; exact h.block k hk hr hv⟩
theorem KB.setR {r : Nat} {v : Value} {w w' : World} (h : KB r v w w') (k : Nat) (u : Value) : KB r v w (w'.setCell ⟨r, k, none⟩ u) :=
  ⟨h.os, h.tape, h.output, by have := h.size; simpa [World.setCell] using this, fun b hb hr hv => by rw [Below.heap_setCell _ _ _ _ (by show b ≠ r; exact hr)]; exact h.block b hb hr hv⟩
theorem KB.box {r : Nat} {v : Value} {w w' : World} (h : KB r v w w') {B : Nat} {a b c : Value} (hB : B ≠ r) (hv : v.ownBlock ≠ some B) (hx : Box w B a b c) : Box w' B a b c := hx.of_block (h.block B hx.lt hB hv)
/-- What is answered lies in a box of its own. -/
theorem fin_box {lo r : Nat} {w wr : World} {ws ns ds : List (List UInt8)} {v v' : Value} (h : RS lo r wr ws ns ds v') (hk : KB r v w wr) (hr : r < w.heap.size) (ho : v'.ownBlock ≠ some w.heap.size) (a b c : Value) :
    RS lo r (((wr.setCell ⟨w.heap.size, 0, none⟩ a).setCell ⟨w.heap.size, 1, none⟩ b).setCell ⟨w.heap.size, 2, none⟩ c) ws ns ds v' ∧ KB r v w (((wr.setCell ⟨w.heap.size, 0, none⟩ a).setCell ⟨w.heap.size, 1, none⟩ b).setCell ⟨w.heap.size, 2, none⟩ c) := by
  have hne : w.heap.size ≠ r := by omega
  have hl := h.lor
  exact ⟨((h.setO (x := ⟨w.heap.size, 0, none⟩) hne ho (by show lo ≤ w.heap.size; omega) a).setO (x := ⟨w.heap.size, 1, none⟩) hne ho (by show lo ≤ w.heap.size; omega) b).setO (x := ⟨w.heap.size, 2, none⟩) hne ho (by show lo ≤ w.heap.size; omega) c,
    ((hk.setNew (x := ⟨w.heap.size, 0, none⟩) (Nat.le_refl _) a).setNew (x := ⟨w.heap.size, 1, none⟩) (Nat.le_refl _) b).setNew (x := ⟨w.heap.size, 2, none⟩) (Nat.le_refl _) c⟩
theorem OwnNew.mono {w w' : World} {a b : Value} (h : OwnNew w' a b) (hs : w.heap.size ≤ w'.heap.size) : OwnNew w a b := fun x hx => by
  rcases h x hx with h1 | h1
  · exact .inl h1
  · exact .inr (by omega)
theorem OwnNew.ne {w : World} {a b : Value} (h : OwnNew w a b) {k : Nat} (hk : k < w.heap.size) (ha : a.ownBlock ≠ some k) : b.ownBlock ≠ some k := fun e => by
  rcases h k e with h1 | h1
  · exact ha h1
  · omega
theorem SlQ.three {Q : Nat → Prop} {w : World} {p : Option Addr} {f : F} (h : SlQ Q w p f) {B : Nat} (hB : ¬ Q B) (a b c : Value) : SlQ Q (((w.setCell ⟨B, 0, none⟩ a).setCell ⟨B, 1, none⟩ b).setCell ⟨B, 2, none⟩ c) p f :=
  h.along fun k o u hq hu => ⟨hq, by
    have hk : k ≠ B := fun e => hB (e ▸ hq)
    rw [World.cell?_of_block (w := w) (by rw [Below.heap_setCell _ _ _ _ hk, Below.heap_setCell _ _ _ _ hk, Below.heap_setCell _ _ _ _ hk])]
    exact hu⟩

set_option maxRecDepth 60000 in
set_option maxHeartbeats 8000000 in
theorem targ_any (ds : List (List UInt8)) (n : Nat) (H : Hid (TermP ds n)) (lo r : Nat) (w : World) (ws ns : List (List UInt8)) (v : Value) (h : RS lo r w ws ns ds v) (hsh : Short ws) (hns : ns.length ≤ 8) (m : Nat) (hm : m ≤ 2) :
    Calls Tryz.prog 119 #[.pointer (some ⟨r, 0, none⟩), .int .i64 (m : Int), .int .i64 (24 - (n : Int))] w (TermPost lo r ds ns w v (argK (termK ds n) m ns ws)) := by
  have hr := h.lt
  have hvo : v.ownBlock ≠ some w.heap.size := fun e => by have := (h.ownlt _ e).2; omega
  have hb0 : Below w.heap.size w (w.alloc (.cells #[.int .i64 0, .int .i64 0, .slice none 0 0] 30)) := (Below.refl _ _).alloc (Nat.le_refl _) _
  have bx0 := Box.new w (.int .i64 0) (.int .i64 0) (.slice none 0 0)
  have hz0 : (w.alloc (.cells #[.int .i64 0, .int .i64 0, .slice none 0 0] 30)).heap.size = w.heap.size + 1 := by simp
  have h0 := h.below hb0
  obtain ⟨X, hX⟩ : ∃ X, namesK m ns ws = X := ⟨_, rfl⟩
  have HX : Hid (namesK m ns ws = X) := hX
  have HR : Hid (argK (termK ds n) m ns ws = andX X fun p => if 8 < p.1.length then .error 5 else termK ds n p.1 p.2) := by unfold argK; rw [hX]; rfl
  clear hX
  generalize argK (termK ds n) m ns ws = res at HR ⊢
  obtain ⟨pw, cw, pd, cd, h1, _, _, _⟩ := h0.blk
  obtain ⟨pn, cn, hvf⟩ := h0.names.form
  obtain ⟨c0, c1, c2, f0, f1, f2⟩ := h1.facts
  rw [hvf] at c1
  have HVF : Hid (v = .slice pn ns.length cn) := hvf
  clear h1 hvf
  go_enter Tryz.func119, Tryz.ntmps119
  go_wp2_with fail
  clear c0 c1 c2 f0 f1 f2
  go_loopg [19] m (fun g ix wr => ∃ (j : Nat) (ws' ns' : List (List UInt8)) (v' : Value), g = m - j ∧ j ≤ m ∧ ix = .int .i64 (j : Int) ∧ RS lo r wr ws' ns' ds v' ∧ Short ws' ∧ ns'.length = ns.length + j ∧ ns'.take ns.length = ns ∧ KB r v w wr ∧ OwnNew (w.alloc (.cells #[.int .i64 0, .int .i64 0, .slice none 0 0] 30)) v v' ∧ Box wr w.heap.size (.int .i64 0) (.int .i64 0) (.slice none 0 0) ∧ Hid (namesK (m - j) ns' ws' = X))
  case atStart => exact ⟨0, ws, ns, v, by simp, Nat.zero_le _, rfl, h0, hsh, rfl, by simp, KB.of_below hb0, OwnNew.refl _ _, bx0, HX⟩
  case round =>
    clear HX h0 hsh bx0
    obtain ⟨j, ws', ns', v', rfl, hj, rfl, hS, hsh, hnl, htk, hkb, hon, hbx, HN⟩ := hrel
    have hvo' : v'.ownBlock ≠ some w.heap.size := hon.ne (by omega) hvo
    have hon0 : OwnNew w v v' := hon.mono hb0.size
    have hnl2 : ns.length ≤ ns'.length := by omega
    have hnl3 : ns'.length ≤ 10 := by omega
    have HNL : Hid (ns'.length = ns.length + j) := hnl
    clear hnl
    by_cases hlt : j < m
    · cases ws' with
      | nil =>
        have HE : Hid (res = .error 8) := by
          have h1 := HN.out
          rw [show m - j = (m - j - 1) + 1 by omega, namesK] at h1
          rw [HR.out, ← h1, andX_error]
          rfl
        clear HR HN
        go_wp2_with fail
        refine (next_none' lo r wr ns' ds v' hS).mono ?_
        rintro e w1 ⟨rfl, rfl⟩
        obtain ⟨b0, b1, b2, g0, g1, g2⟩ := hbx.facts
        go_wp2_with fail
        obtain ⟨d0, d1, d2, _, _, _⟩ := (Box.set hbx (.int .i64 0) (.int .i64 0) (.slice none 0 0)).facts
        obtain ⟨hF, kF⟩ := fin_box hS hkb hr hvo' (.int .i64 0) (.int .i64 0) (.slice none 0 0)
        refine bodyPost_ret (v := .tuple #[.agg #[.int .i64 0, .int .i64 0, .slice none 0 0], .int .i64 8]) (by simp [results, Tryz.results119, go_sem, d0, d1, d2]) rfl ?_
        rw [HE.out]
        exact ⟨kF, _, _, _, hF, hon0, rfl, by decide, by omega⟩
      | cons x ws' =>
        have hxl := hsh.head.2
        have HN1 : Hid ((if nameB x = true then namesK (m - (j + 1)) (ns' ++ [x]) ws' else .error 7) = X) := by
          have h1 := HN.out
          rw [show m - j = (m - (j + 1)) + 1 by omega, namesK] at h1
          exact h1
        clear HN
        go_wp2_with fail
        refine (next_some lo r wr x ws' ns' ds v' hS).mono ?_
        rintro e w1 ⟨rfl, hS1, hk1⟩
        have bx1 := hk1.box (by omega) hbx
        have hkb1 : KB r v w w1 := hkb.trans (KB.of_kept hk1 (v := v')) hon0
        have hz1 := hk1.size
        clear hS hbx hkb hk1
        go_wp2_with fail
        refine (pname_any x w1 lo hS1.vs (by omega)).mono ?_
        rintro e w2 ⟨rfl, rfl⟩
        cases hN : nameB x
        · have HE : Hid (res = .error 7) := by
            have h1 := HN1.out
            rw [if_neg (by rw [hN]; decide)] at h1
            rw [HR.out, ← h1, andX_error]
            rfl
          clear HR HN1 hN
          obtain ⟨b0, b1, b2, g0, g1, g2⟩ := bx1.facts
          go_wp2_with fail
          obtain ⟨d0, d1, d2, _, _, _⟩ := (Box.set bx1 (.int .i64 0) (.int .i64 0) (.slice none 0 0)).facts
          obtain ⟨hF, kF⟩ := fin_box hS1 hkb1 hr hvo' (.int .i64 0) (.int .i64 0) (.slice none 0 0)
          refine bodyPost_ret (v := .tuple #[.agg #[.int .i64 0, .int .i64 0, .slice none 0 0], .int .i64 7]) (by simp [results, Tryz.results119, go_sem, d0, d1, d2]) rfl ?_
          rw [HE.out]
          exact ⟨kF, _, _, _, hF, hon0, rfl, by decide, by omega⟩
        · have HN2 : Hid (namesK (m - (j + 1)) (ns' ++ [x]) ws' = X) := by
            have h1 := HN1.out
            rw [if_pos hN] at h1
            exact h1
          clear HN1 hN
          obtain ⟨g, cap, w3, hrun, ⟨q0, q1, q2, q3⟩, hS3, hkb3, hon3⟩ := rs_push hS1 x (by omega)
          have HRP : Hid ((Builtin.append_ #[102, 102] 102 #[v', .slice (some ⟨w2.heap.size, 0, none⟩) 1 1]).run Tryz.prog (w2.alloc (.cells #[.string ⟨x.toArray⟩] 9)) = .ok (.slice (some ⟨g, 0, none⟩) (ns'.length + 1) cap) w3) := hrun
          clear hrun
          obtain ⟨pw, cw, pd, cd, r1, _, _, _⟩ := hS1.blk
          obtain ⟨c0, c1, c2, f0, f1, f2⟩ := r1.facts
          rw [c1] at q1
          rw [f1] at q3
          clear r1 q0 q2 c0 c2 f0 f2
          go_wp2_with (first | (at_builtin; refine wpList_append_run rfl _ _ 102 rfl _ _ _ rfl rfl HRP.out ?_; clear HRP) | fail)
          go_roundg (m - (j + 1))
          case measure => omega
          case rel =>
            have hzA : (w.alloc (.cells #[.int .i64 0, .int .i64 0, .slice none 0 0] 30)).heap.size ≤ w2.heap.size := by have := bx1.lt; omega
            exact ⟨j + 1, ws', ns' ++ [x], _, rfl, hlt, by go_num, hS3, hsh.tail, by have := HNL.out; simp; omega, by rw [List.take_append_of_le_length (by omega)]; exact htk, hkb1.trans hkb3 hon0, hon.trans hon3 hzA, hkb3.box (by omega) hvo' bx1, HN2⟩
    · obtain rfl : j = m := by omega
      have HN1 : Hid (res = if 8 < ns'.length then .error 5 else termK ds n ns' ws') := by
        have h1 := HN.out
        rw [Nat.sub_self, namesK] at h1
        rw [HR.out, ← h1, andX_ok]
        rfl
      clear HN HR
      obtain ⟨pw, cw, pd, cd, r1, _, _, _⟩ := hS.blk
      obtain ⟨pb, cb, hvf2⟩ := hS.names.form
      obtain ⟨c0, c1, c2, f0, f1, f2⟩ := r1.facts
      rw [hvf2] at c1
      clear hvf2
      clear r1 c0 c2 f0 f2
      by_cases h8 : 8 < ns'.length
      · have HE : Hid (res = .error 5) := by rw [HN1.out, if_pos h8]; rfl
        clear HN1
        obtain ⟨b0, b1, b2, g0, g1, g2⟩ := hbx.facts
        go_wp2_with fail
        obtain ⟨d0, d1, d2, _, _, _⟩ := (Box.set hbx (.int .i64 0) (.int .i64 0) (.slice none 0 0)).facts
        obtain ⟨hF, kF⟩ := fin_box hS hkb hr hvo' (.int .i64 0) (.int .i64 0) (.slice none 0 0)
        refine bodyPost_ret (v := .tuple #[.agg #[.int .i64 0, .int .i64 0, .slice none 0 0], .int .i64 5]) (by simp [results, Tryz.results119, go_sem, d0, d1, d2]) rfl ?_
        rw [HE.out]
        exact ⟨kF, _, _, _, hF, hon0, rfl, by decide, by omega⟩
      · have HE : Hid (res = termK ds n ns' ws') := by rw [HN1.out, if_neg h8]; rfl
        clear HN1
        have HTC := H.out lo r wr ws' ns' v' hS hsh (by omega)
        have HTH : Hid (Calls Tryz.prog 78 #[.pointer (some ⟨r, 0, none⟩), .int .i64 (24 - (n : Int))] wr (TermPost lo r ds ns' wr v' (termK ds n ns' ws'))) := HTC
        clear HTC
        have hrz := hbx.lt
        go_wp2_with fail
        clear c1 f1
        refine HTH.out.mono ?_
        clear HTH
        rintro e w2 ⟨hkb2, ws2, ns2, v2, hS2, hon2, hres⟩
        have hz2 := hkb2.size
        have bx2 := hkb2.box (by omega) hvo' hbx
        have hkbT := hkb.trans hkb2 hon0
        have honT : OwnNew (w.alloc (.cells #[.int .i64 0, .int .i64 0, .slice none 0 0] 30)) v v2 := hon.trans hon2 (by omega)
        have hvo2 : v2.ownBlock ≠ some w.heap.size := honT.ne (by omega) hvo
        clear hS hkb hkb2 hbx
        generalize termK ds n ns' ws' = tres at HE hres
        cases tres with
        | error y =>
          obtain ⟨rfl, hy0, hln⟩ := hres
          obtain ⟨pw, cw, pd, cd, r1, _, _, _⟩ := hS2.blk
          obtain ⟨pb2, cb2, rfl⟩ := hS2.names.form
          obtain ⟨c0, c1, c2, f0, f1, f2⟩ := r1.facts
          have hcut := cut_texts hS2.names (m := ns.length) (by omega) rfl
          have hNt := hS2.names.take (m := ns.length) (by omega)
          have hS3 := hS2.setB (v' := .slice pb2 ns.length cb2) hNt (by rw [own_eq pb2 _ ns2.length _ cb2]; exact hS2.own)
          have kb3 := hkbT.setR 1 (.slice pb2 ns.length cb2)
          have hrw2 : r < w2.heap.size := hS2.lt
          have hown3 : (Value.slice pb2 ns.length cb2).ownBlock ≠ some w.heap.size := by rw [own_eq pb2 _ ns2.length _ cb2]; exact hvo2
          have hon3 : OwnNew w v (.slice pb2 ns.length cb2) := fun b e => honT.mono hb0.size b (by rw [own_eq pb2 _ ns.length _ cb2]; exact e)
          have bx3 : Box (w2.setCell ⟨r, 1, none⟩ (.slice pb2 ns.length cb2)) w.heap.size (.int .i64 0) (.int .i64 0) (.slice none 0 0) := bx2.setOther (by show w.heap.size ≠ r; omega) _
          have hwlt := bx2.lt
          obtain ⟨hF, kF⟩ := fin_box hS3 kb3 hr hown3 (.int .i64 0) (.int .i64 0) (.slice none 0 0)
          obtain ⟨b0, b1, b2, g0, g1, g2⟩ := bx2.facts
          have bx4 := bx3.set (.int .i64 0) (.int .i64 0) (.slice none 0 0)
          clear r1 c0 c2 f0 f2 hS2 hNt hS3 kb3 bx2 bx3
          go_wp2_with fail
          have bx5 := bx4.alloc (.cells #[.int .i64 0, .int .i64 0, .slice none 0 0] 30)
          obtain ⟨d0, d1, d2, _, _, _⟩ := bx5.facts
          have hbA : Below _ _ (World.alloc _ (.cells #[.int .i64 0, .int .i64 0, .slice none 0 0] 30)) := (Below.refl _ (((( w2.setCell ⟨r, 1, none⟩ (.slice pb2 ns.length cb2)).setCell ⟨w.heap.size, 0, none⟩ (.int .i64 0)).setCell ⟨w.heap.size, 1, none⟩ (.int .i64 0)).setCell ⟨w.heap.size, 2, none⟩ (.slice none 0 0))).alloc (Nat.le_refl _) _
          refine bodyPost_ret (v := .tuple #[.agg #[.int .i64 0, .int .i64 0, .slice none 0 0], .int .i64 y]) (by simp [results, Tryz.results119, go_sem, d0, d1, d2]) rfl ?_
          rw [HE.out]
          exact ⟨kF.trans (KB.of_below hbA (v := v)) (OwnNew.refl _ _), _, _, _, hF.below hbA, hon3, rfl, hy0, by rw [List.length_take]; omega⟩
        | ok tr =>
          obtain ⟨t, rest⟩ := tr
          obtain ⟨rfl, rfl, p, ⟨cap, hcap⟩, hve, hsl⟩ := hres
          dsimp only at hve
          subst hve
          have HCAP := (show Hid _ from hcap)
          clear hcap
          obtain ⟨pw, cw, pd, cd, r1, _, _, _⟩ := hS2.blk
          obtain ⟨pb2, cb2, rfl⟩ := hS2.names.form
          obtain ⟨c0, c1, c2, f0, f1, f2⟩ := r1.facts
          have hcut := cut_texts hS2.names (m := ns.length) (by omega) rfl
          have hNt := hS2.names.take (m := ns.length) (by omega)
          have hS3 := hS2.setB (v' := .slice pb2 ns.length cb2) hNt (by rw [own_eq pb2 _ ns2.length _ cb2]; exact hS2.own)
          have kb3 := hkbT.setR 1 (.slice pb2 ns.length cb2)
          have hrw2 : r < w2.heap.size := hS2.lt
          have hown3 : (Value.slice pb2 ns.length cb2).ownBlock ≠ some w.heap.size := by rw [own_eq pb2 _ ns2.length _ cb2]; exact hvo2
          have hon3 : OwnNew w v (.slice pb2 ns.length cb2) := fun b e => honT.mono hb0.size b (by rw [own_eq pb2 _ ns.length _ cb2]; exact e)
          have bx3 : Box (w2.setCell ⟨r, 1, none⟩ (.slice pb2 ns.length cb2)) w.heap.size (.int .i64 0) (.int .i64 0) (.slice none 0 0) := bx2.setOther (by show w.heap.size ≠ r; omega) _
          have hwlt := bx2.lt
          obtain ⟨hF, kF⟩ := fin_box hS3 kb3 hr hown3 (.int .i64 t.1) (.int .i64 t.2.1) (.slice p (len t.2.2) cap)
          obtain ⟨b0, b1, b2, g0, g1, g2⟩ := bx2.facts
          have bx4 := bx3.set (.int .i64 t.1) (.int .i64 t.2.1) (.slice p (len t.2.2) cap)
          clear r1 c0 c2 f0 f2 hS2 hNt hS3 kb3 bx2 bx3
          go_wp2_with fail
          have bx5 := bx4.alloc (.cells #[.int .i64 t.1, .int .i64 t.2.1, .slice p (len t.2.2) cap] 30)
          obtain ⟨d0, d1, d2, _, _, _⟩ := bx5.facts
          have hbA : Below _ _ (World.alloc _ (.cells #[.int .i64 t.1, .int .i64 t.2.1, .slice p (len t.2.2) cap] 30)) := (Below.refl _ (((( w2.setCell ⟨r, 1, none⟩ (.slice pb2 ns.length cb2)).setCell ⟨w.heap.size, 0, none⟩ (.int .i64 t.1)).setCell ⟨w.heap.size, 1, none⟩ (.int .i64 t.2.1)).setCell ⟨w.heap.size, 2, none⟩ (.slice p (len t.2.2) cap))).alloc (Nat.le_refl _) _
          refine bodyPost_ret (v := .tuple #[.agg #[.int .i64 t.1, .int .i64 t.2.1, .slice p (len t.2.2) cap], .int .i64 0]) (by simp [results, Tryz.results119, go_sem, d0, d1, d2]) rfl ?_
          rw [HE.out]
          refine ⟨kF.trans (KB.of_below hbA (v := v)) (OwnNew.refl _ _), _, _, _, hF.below hbA, hon3, rfl, htk, p, ⟨cap, HCAP.out⟩, rfl, ?_⟩
          refine hsl.along fun b o u hq hu => ⟨⟨by have := hq.1; omega, by rw [own_eq pb2 _ ns2.length _ cb2]; exact hq.2⟩, ?_⟩
          have hbr : b ≠ r := by have := hq.1; omega
          have hbw : b ≠ w.heap.size := by have := hq.1; omega
          have hs := World.block_lt_of_cell? w2 ⟨b, o, none⟩ hu
          rw [World.cell?_of_block (w := w2) (by rw [Below.heap_alloc _ _ _ (by simpa [World.setCell] using hs), Below.heap_setCell _ _ _ _ hbw, Below.heap_setCell _ _ _ _ hbw, Below.heap_setCell _ _ _ _ hbw, Below.heap_setCell _ _ _ _ hbr])]
          exact hu
end Go.Proofs.YthfjmcomhccbaaaGreatDoor
