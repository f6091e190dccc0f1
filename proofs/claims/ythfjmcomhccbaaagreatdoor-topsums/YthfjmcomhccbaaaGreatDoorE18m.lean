/-
  Contracts: whatever works a thunk out; and Now.
-/
/-
  Contracts: Now.
-/
/-
  Contracts: Arg, and Under.
-/
/-
  Contracts: Of.
-/
import Derived.Test.YthfjmcomhccbaaaGreatDoorE16m
namespace Go.Proofs.YthfjmcomhccbaaaGreatDoor
open Go.RowKit Tmx Evx
set_option maxRecDepth 60000

theorem value_any (s B : Nat) (hD : DoingP s B) (pm tb to c : Nat) (fi ca : Array Value) (m : Mk) (k n : Int) (f : F) (p : Value) (env : List Th) (v : V) (g : Gh) (w : World) (hin : Inv g w) (hm : MkIs g w pm m) (ht : TmAt g.o w tb to k n f) (he : EnvIs g w p env) (hK : tmV (ev s) m k n f env = some v) :
    Calls Tryz.prog 33 #[ptr pm, .pointer (some ⟨tb, to, none⟩), p, .func (.func c) fi ca] w (NxP g w v (.func (.func c) fi ca) (2 * B + 5) TT) := by
  unfold tmV at hK
  by_cases h1 : k = 1
  · subst h1
    rw [if_pos rfl] at hK
    split at hK
    · rename_i h
      obtain ⟨h0, h2, h3⟩ := h
      obtain ⟨j, rfl⟩ : ∃ j : Nat, n = (j : Int) := ⟨n.toNat, by omega⟩
      exact valueVar_any s B hD pm tb to c fi ca m j f p env v g w hin hm ht he (by have := (mild_iff h2).2; omega) h3 hK
    · cases hK
  · rw [if_neg h1] at hK
    by_cases h2 : k = 18
    · subst h2
      rw [if_pos rfl] at hK
      split at hK
      · rename_i h0
        obtain ⟨j, rfl⟩ : ∃ j : Nat, n = (j : Int) := ⟨n.toNat, by omega⟩
        split at hK
        · rename_i d hd
          exact valueDef_any s B hD pm tb to c fi ca m j f p env v d g w hin hm ht he hd hK
        · cases hK
      · cases hK
    · rw [if_neg h2] at hK
      split at hK
      · rename_i h
        exact valueTm_any s B hD pm tb to c fi ca m k n f p env v g w hin hm ht he h1 h2 h.1 h.2.1 h.2.2 hK
      · cases hK

set_option maxHeartbeats 1000000 in
theorem later1_any (s B : Nat) (hD : DoingP s B) (bm bt bi c : Nat) (fi ca : Array Value) (m : Mk) (k n : Int) (f : F) (env : List Th) (v : V) (g : Gh) (w : World) (hin : Inv g w) (hc : CapIs g w bm bt bi m k n f env) (hK : tmV (ev s) m k n f env = some v) :
    Calls Tryz.prog 32 #[.func (.func c) fi ca, ptr bm, ptr bt, ptr bi] w (NxP g w v (.func (.func c) fi ca) (2 * B + 5) TT) := by
  obtain ⟨W, hW, hb, R, hz⟩ := lay1 w #[.nilFunc, .pointer none] 81
  have hs0 := Ste.below hin hb
  obtain ⟨pm, tb, to, p, h1, h2, h3, h4, h5, h6⟩ := hc.along (hs0.mor hin)
  obtain ⟨x0, rfl⟩ := h6.pointer
  have HC : Calls Tryz.prog 33 #[.pointer (some ⟨pm, 0, none⟩), .pointer (some ⟨tb, to, none⟩), .pointer x0, .func (.func c) fi ca] W (NxP g W v (.func (.func c) fi ca) (2 * B + 5) TT) :=
    value_any s B hD pm tb to c fi ca m k n f (.pointer x0) env v g W hs0.inv h4 h5 h6 hK
  obtain ⟨a0, _⟩ := h1.2.one
  obtain ⟨b0, _⟩ := h2.2.one
  obtain ⟨c0, _⟩ := h3.2.one
  obtain ⟨r0, r1, r2, r3⟩ := R.two
  have HR : Hid (g.l w.heap.size = none ∧ ¬ g.o w.heap.size ∧ Blk W w.heap.size #[.nilFunc, .pointer none] 81) := ⟨hin.l_new (Nat.le_refl _), hin.o_new (Nat.le_refl _), R⟩
  have HS : Hid (Ste g w g W) := hs0
  unfold ptr at *
  clear hin hs0 hD hb R hK hc h1 h2 h3 h4 h5 h6
  go_enter Tryz.func32, Tryz.ntmps32
  go_wp2_with fail
  refine HC.mono ?_
  rintro e w2 ⟨g2, c3, fi3, ca3, p3, rfl, hs2, hC2⟩
  obtain ⟨u1, u2, u3⟩ := nx_set HS.out hs2 hC2 (Nat.le_refl _) HR.out.2.2.lt HR.out.1 HR.out.2.1
  have R2 := u3 _ _ HR.out.2.2
  obtain ⟨s0, s1, s2, s3⟩ := R2.two
  obtain ⟨g0, g1, _, _⟩ := (R2.set2 (.func (.func c3) fi3 ca3) (.pointer p3)).two
  have HF : Hid (NxP g w v (.func (.func c) fi ca) (2 * B + 5) TT (.returned (.agg #[.func (.func c3) fi3 ca3, .pointer p3])) ((w2.setCell ⟨w.heap.size, 0, none⟩ (.func (.func c3) fi3 ca3)).setCell ⟨w.heap.size, 1, none⟩ (.pointer p3))) := ⟨g2, _, _, _, _, rfl, u1, u2⟩
  clear u1 u2 u3 hs2 hC2 HC R2
  go_wp2_with fail
  refine bodyPost_ret (v := .agg #[.func (.func c3) fi3 ca3, .pointer p3]) (by simp [results, Tryz.results32, go_sem, g0, g1]) rfl HF.out

set_option maxHeartbeats 1000000 in
theorem arg11_any (s B : Nat) (hD : DoingP s B) (bm bt bi c : Nat) (fi ca : Array Value) (m : Mk) (k n : Int) (f : F) (env : List Th) (v : V) (g : Gh) (w : World) (hin : Inv g w) (hc : CapIs g w bm bt bi m k n f env) (hK : tmV (ev s) m k n f env = some v) :
    Calls Tryz.prog 66 #[.func (.func c) fi ca, ptr bm, ptr bt, ptr bi] w (NxP g w v (.func (.func c) fi ca) (2 * B + 5) TT) := by
  obtain ⟨W, hW, hb, R, hz⟩ := lay1 w #[.nilFunc, .pointer none] 81
  have hs0 := Ste.below hin hb
  obtain ⟨pm, tb, to, p, h1, h2, h3, h4, h5, h6⟩ := hc.along (hs0.mor hin)
  obtain ⟨x0, rfl⟩ := h6.pointer
  have HC : Calls Tryz.prog 33 #[.pointer (some ⟨pm, 0, none⟩), .pointer (some ⟨tb, to, none⟩), .pointer x0, .func (.func c) fi ca] W (NxP g W v (.func (.func c) fi ca) (2 * B + 5) TT) :=
    value_any s B hD pm tb to c fi ca m k n f (.pointer x0) env v g W hs0.inv h4 h5 h6 hK
  obtain ⟨a0, _⟩ := h1.2.one
  obtain ⟨b0, _⟩ := h2.2.one
  obtain ⟨c0, _⟩ := h3.2.one
  obtain ⟨r0, r1, r2, r3⟩ := R.two
  have HR : Hid (g.l w.heap.size = none ∧ ¬ g.o w.heap.size ∧ Blk W w.heap.size #[.nilFunc, .pointer none] 81) := ⟨hin.l_new (Nat.le_refl _), hin.o_new (Nat.le_refl _), R⟩
  have HS : Hid (Ste g w g W) := hs0
  unfold ptr at *
  clear hin hs0 hD hb R hK hc h1 h2 h3 h4 h5 h6
  go_enter Tryz.func66, Tryz.ntmps66
  go_wp2_with fail
  refine HC.mono ?_
  rintro e w2 ⟨g2, c3, fi3, ca3, p3, rfl, hs2, hC2⟩
  obtain ⟨u1, u2, u3⟩ := nx_set HS.out hs2 hC2 (Nat.le_refl _) HR.out.2.2.lt HR.out.1 HR.out.2.1
  have R2 := u3 _ _ HR.out.2.2
  obtain ⟨s0, s1, s2, s3⟩ := R2.two
  obtain ⟨g0, g1, _, _⟩ := (R2.set2 (.func (.func c3) fi3 ca3) (.pointer p3)).two
  have HF : Hid (NxP g w v (.func (.func c) fi ca) (2 * B + 5) TT (.returned (.agg #[.func (.func c3) fi3 ca3, .pointer p3])) ((w2.setCell ⟨w.heap.size, 0, none⟩ (.func (.func c3) fi3 ca3)).setCell ⟨w.heap.size, 1, none⟩ (.pointer p3))) := ⟨g2, _, _, _, _, rfl, u1, u2⟩
  clear u1 u2 u3 hs2 hC2 HC R2
  go_wp2_with fail
  refine bodyPost_ret (v := .agg #[.func (.func c3) fi3 ca3, .pointer p3]) (by simp [results, Tryz.results66, go_sem, g0, g1]) rfl HF.out

/-- So many rounds at most. -/
def Bs : Nat → Nat
  | 0 => 0
  | s + 1 => 2 * Bs s + 5

theorem doing_any : ∀ s, DoingP s (Bs s)
  | 0 => by
    intro g w x t v c fi ca _ hd hv
    unfold ev at hv
    split at hv
    · exact False.elim hd
    · cases hv
  | s + 1 => by
    have ih := doing_any s
    intro g w x t v c fi ca hi hd hv
    unfold DoIs at hd
    split at hd
    · obtain ⟨cc, bm, bt, bi, hcc, rfl, hcap⟩ := hd
      rcases hcc with rfl | rfl
      · exact ⟨_, _, _, rfl, ent_later1, later1_any s _ ih bm bt bi c fi ca _ _ _ _ _ v g w hi hcap hv⟩
      · exact ⟨_, _, _, rfl, ent_arg11, arg11_any s _ ih bm bt bi c fi ca _ _ _ _ _ v g w hi hcap hv⟩
    · obtain ⟨b, q, rfl, hbo, hva⟩ := hd
      exact ⟨_, _, _, rfl, ent_of1, of1_any s _ ih b q c fi ca _ v g w hi hbo hva hv⟩
    · obtain ⟨b, q, rfl, hbo, hva⟩ := hd
      exact ⟨_, _, _, rfl, ent_came1, came1_any s _ ih b q c fi ca _ v g w hi hbo hva hv⟩
    · obtain ⟨b, rfl, hl⟩ := hd
      exact ⟨_, _, _, rfl, ent_ask, (ask_any s _ ih b c fi ca _ v g w hi hl hv).mono fun e w' h => h.weak.more (by show Bs s + 2 ≤ 2 * Bs s + 5; omega)⟩
    · exact hd.elim
end Go.Proofs.YthfjmcomhccbaaaGreatDoor

namespace Go.Proofs.YthfjmcomhccbaaaGreatDoor
open Go.RowKit Tmx Evx
set_option maxRecDepth 60000

theorem ent_now1 : Enters 30 := fun a W => by kernel_rfl
theorem neq_nn (W : World) : Sem.run Tryz.prog (binOp BinOp.neq 79 .nilFunc .nilFunc) W = .ok (.bool false) W := by kernel_rfl
theorem neq_fn (f : Fn) (a b : Array Value) (W : World) : Sem.run Tryz.prog (binOp BinOp.neq 79 (.func f a b) .nilFunc) W = .ok (.bool true) W := by kernel_rfl

theorem now1_any (q : Nat) (w : World) : Calls Tryz.prog 30 #[ptr q] w fun e w' => e = .returned (.agg #[.nilFunc, .pointer none]) ∧ Below w.heap.size w w' := by
  obtain ⟨W, hW, hb, R, hz⟩ := lay1 w #[.nilFunc, .pointer none] 81
  obtain ⟨r0, r1, r2, r3⟩ := R.two
  obtain ⟨s0, s1, _, _⟩ := (R.set2 .nilFunc (.pointer none)).two
  have HB : Hid (Below w.heap.size w W) := hb
  unfold ptr
  clear hb R
  go_enter Tryz.func30, Tryz.ntmps30
  go_wp2_with fail
  refine bodyPost_ret (v := .agg #[.nilFunc, .pointer none]) (by simp [results, Tryz.results30, go_sem, s0, s1]) rfl ⟨rfl, (HB.out.setCell (Nat.le_refl _) _).setCell (Nat.le_refl _) _⟩

/-- What Now answers. -/
def NowP (g : Gh) (w : World) (v : V) (e : Ending) (w' : World) : Prop := ∃ g' q, e = .returned (ptr q) ∧ Ste g w g' w' ∧ g'.v q = some v

set_option maxHeartbeats 4000000 in
theorem now_any (b : Nat) (t : Th) (v : V) (g : Gh) (w : World) (hi : Inv g w) (hl : g.l b = some t) (hy : Evx.Yields t v) :
    Calls Tryz.prog 20 #[ptr b] w (NowP g w v) := by
  obtain ⟨s, hs⟩ := hy
  have HA : Calls Tryz.prog 29 #[.pointer (some ⟨b, 0, none⟩), .func (.func 30) #[] #[]] w (NxP g w v (.func (.func 30) #[] #[]) (Bs s + 2) (DN b)) :=
    ask_any s _ (doing_any s) b _ #[] #[] t v g w hi hl hs
  have HL : Hid (Inv g w ∧ g.l b = some t) := ⟨hi, hl⟩
  unfold ptr at *
  clear hi hl hs
  go_enter Tryz.func20, Tryz.ntmps20
  go_wp2_with fail
  refine HA.mono ?_
  rintro e w2 ⟨g2, c3, fi3, ca3, p3, rfl, hs2, hC2⟩
  obtain ⟨X, hX, hbX, RX, hzX⟩ := lay1 w2 #[.func (.func c3) fi3 ca3, .pointer p3] 81
  have hpX := Pri.below hs2.inv hbX
  have hiX := hpX.inv hs2.inv
  have hmX : Mine w2.heap.size g2 X := ⟨by omega, hs2.inv.l_new (Nat.le_refl _), hs2.inv.o_new (Nat.le_refl _), _, _, RX⟩
  have hlb := hs2.le.l _ _ HL.out.2
  have hne : b ≠ w2.heap.size := fun e => by have := hs2.inv.l_lt hlb; omega
  have hT := hC2 X hpX w2.heap.size hmX 1 (fun w' => ∃ g' q, SteX w2.heap.size g2 X g' w' ∧ g'.v q = some v ∧ DN b w' q) (by
    intro g3 w3 q hs3 hv3 hd3
    refine .inr ⟨_, _, _, _, rfl, ent_now1, (now1_any q w3).mono ?_⟩
    rintro e w4 ⟨rfl, hb4⟩
    have m3 := hmX.step hs3
    obtain ⟨u, p, hb5⟩ := m3.blk
    have hb6 := (hb5.below hb4).set2 .nilFunc (.pointer none)
    have h4 := Ste.below hs3.inv hb4
    have m4 := m3.step (h4.x m3)
    have hp5 := Pri.set2 (w := w4) m4.l m4.o .nilFunc (.pointer none)
    refine ⟨_, _, rfl, .inl rfl, ⟨_, _, hb5.below hb4⟩, none, rfl, g3, q, (hs3.trans (h4.x m3)).trans ⟨.refl _ _, rfl, rfl, rfl, hp5.size, fun k _ _ hk => by rw [Below.heap_setCell _ _ _ _ hk, Below.heap_setCell _ _ _ _ hk], fun _ => ⟨_, _, hb6⟩, hp5.inv h4.inv⟩, hv3, ?_⟩
    exact ((Blk.below hd3 hb4).setOther (x := ⟨w2.heap.size, 0, none⟩) hne _).setOther (x := ⟨w2.heap.size, 1, none⟩) hne _)
  have HT : Hid (Tramp w2.heap.size (fun w' => ∃ g' q, SteX w2.heap.size g2 X g' w' ∧ g'.v q = some v ∧ DN b w' q) (1 + (Bs s + 2)) (.agg #[.func (.func c3) fi3 ca3, .pointer p3]) X) := hT
  have HS : Hid (Ste g w g2 w2 ∧ Inv g2 X ∧ Below w2.heap.size w2 X) := ⟨hs2, hiX, hbX⟩
  have HRX : Hid (Blk X w2.heap.size #[.func (.func c3) fi3 ca3, .pointer p3] 81) := RX
  clear hT hs2 hC2 hpX hiX hmX hlb HA hbX RX
  have hnn := neq_nn
  have hnf := neq_fn
  go_wp2_with fail
  go_loopg [] (1 + (Bs s + 2)) (fun gg wr => ∃ (a : Value) (p : Option Addr), (a = .nilFunc ∨ ∃ c fi ca, a = .func c fi ca) ∧ Blk wr w2.heap.size #[a, .pointer p] 81 ∧ Hid (Tramp w2.heap.size (fun w' => ∃ g' q, SteX w2.heap.size g2 X g' w' ∧ g'.v q = some v ∧ DN b w' q) gg (.agg #[a, .pointer p]) wr))
  case atStart => exact ⟨_, p3, .inr ⟨_, _, _, rfl⟩, HRX.out, HT⟩
  case round =>
    clear HT HRX hX hzX
    obtain ⟨a, p, ha, hB, hT⟩ := hrel
    obtain ⟨n0, n1, n2, n3⟩ := hB.two
    rcases ha with rfl | ⟨cf, fi, ca, rfl⟩
    · have hQ : ∃ g' q, SteX w2.heap.size g2 X g' wr ∧ g'.v q = some v ∧ DN b wr q := by
        have h := hT.out
        cases gk with
        | zero => obtain ⟨_, _, h⟩ := h; exact h
        | succ k =>
          rcases h with ⟨_, _, h⟩ | ⟨c, fi, ca, p, he, _⟩
          · exact h
          · simp at he
      obtain ⟨g3, q, hs3, hv3, hd3⟩ := hQ
      obtain ⟨d0, d1, _, _⟩ := Blk.two hd3
      unfold ptr at d1
      have HF : Hid (NowP g w v (.returned (.pointer (some ⟨q, 0, none⟩))) wr) := by
        refine ⟨g3, q, rfl, ?_, hv3⟩
        obtain ⟨h1, h2, h3⟩ := HS.out
        exact ⟨h1.le.trans (hs3.le) (Nat.le_trans h1.keep.size h3.size), ⟨hs3.os.trans (h3.os.trans h1.keep.os), hs3.tape.trans (h3.tape.trans h1.keep.tape), hs3.output.trans (h3.output.trans h1.keep.output), Nat.le_trans h1.keep.size (Nat.le_trans h3.size hs3.size), fun k hk hn => by
          have hk2 := Nat.lt_of_lt_of_le hk h1.keep.size
          exact ((hs3.block k (Nat.lt_of_lt_of_le hk2 h3.size) (h1.le.ln k hk hn) (by omega)).trans (h3.block k hk2)).trans (h1.keep.block k hk hn)⟩, hs3.inv⟩
      clear hT hs3 hv3 hd3 hB
      go_wp2_with fail
      refine bodyPost_ret (v := .pointer (some ⟨q, 0, none⟩)) (by simp [results, Tryz.results20, go_sem]) rfl HF.out
    · cases gk with
      | zero => obtain ⟨_, he, _⟩ := hT.out; simp at he
      | succ k =>
        rcases hT.out with ⟨_, he, _⟩ | ⟨c, fi', ca', p', he, hE, hC⟩
        · simp at he
        · have he' := he
          clear he
          have hq : cf = .func c ∧ fi = fi' ∧ ca = ca' ∧ p = p' := by
            injection he' with h
            have h0 := congrArg (fun l : Array Value => l[0]?) h
            have h1 := congrArg (fun l : Array Value => l[1]?) h
            simp only [List.getElem?_toArray, List.getElem?_cons_zero, List.getElem?_cons_succ, Option.some.injEq, Value.func.injEq, Value.pointer.injEq] at h0 h1
            exact ⟨h0.1, h0.2.1, h0.2.2, h1⟩
          obtain ⟨rfl, rfl, rfl, rfl⟩ := hq
          rw [Array.append_singleton] at hC
          unfold Enters at hE
          have HTr := (show Hid True from trivial)
          clear hT he' HTr
          go_wp2_with fail
          refine hC.mono ?_
          rintro e w4 ⟨a4, p4, rfl, ha4, ⟨u4, q4, hb4⟩, hT4⟩
          obtain ⟨y0, y1, y2, y3⟩ := hb4.two
          have HT4 := (show Hid _ from hT4)
          have HB4 : Hid (Blk ((w4.setCell ⟨w2.heap.size, 0, none⟩ a4).setCell ⟨w2.heap.size, 1, none⟩ (.pointer p4)) w2.heap.size #[a4, .pointer p4] 81) := hb4.set2 _ _
          clear hT4 hC hb4
          rcases ha4 with rfl | ⟨c5, fi5, ca5, rfl⟩
          · go_wp2_with fail
            go_roundg k
            case measure => omega
            case rel => exact ⟨.nilFunc, p4, .inl rfl, HB4.out, HT4.out⟩
          · go_wp2_with fail
            go_roundg k
            case measure => omega
            case rel => exact ⟨.func c5 fi5 ca5, p4, .inr ⟨_, _, _, rfl⟩, HB4.out, HT4.out⟩
end Go.Proofs.YthfjmcomhccbaaaGreatDoor

namespace Go.Proofs.YthfjmcomhccbaaaGreatDoor
open Go.RowKit Tmx Evx
set_option maxRecDepth 60000

/-- That argument, of those that it has bound. -/
def argV (v : V) (i : Nat) (l : List Th) : Option Th := match v.args[i]? with
  | some ⟨6, ⟨0, 0, []⟩, 0, 0, .nil, [t]⟩ => some t
  | some a => appl a l
  | none => none
theorem eqlU_n (W : World) : Sem.run Tryz.prog (binOp BinOp.eql 89 .nilFunc .nilFunc) W = .ok (.bool true) W := by kernel_rfl
theorem eqlU_f (f : Fn) (a b : Array Value) (W : World) : Sem.run Tryz.prog (binOp BinOp.eql 89 (.func f a b) .nilFunc) W = .ok (.bool false) W := by kernel_rfl

set_option maxHeartbeats 2000000 in
theorem argV_any (qv i : Nat) (v : V) (q : Option Addr) (cap : Nat) (l : List Th) (t : Th) (g : Gh) (w : World) (hi : Inv g w) (hv : g.v qv = some v) (hr : RowL g w q l) (hl : l.length ≤ 1099511627776) (ha : argV v i l = some t) :
    Calls Tryz.prog 22 #[ptr qv, .int .i64 (i : Int), .slice q l.length cap] w (LatP g w t) := by
  obtain ⟨a, hia⟩ : ∃ a, v.args[i]? = some a := by
    cases e : v.args[i]? with
    | none => simp [argV, e] at ha
    | some a => exact ⟨a, rfl⟩
  obtain ⟨p, cp, c0, c1, c2, hA⟩ := (hi.v qv v hv).cells
  obtain ⟨b, x, u, rfl, hob, hx, hu, hAr⟩ := hA.at hia
  obtain ⟨na, hna, hlt⟩ : ∃ na, v.args.length = na ∧ i < na := ⟨_, rfl, (List.getElem?_eq_some_iff.1 hia).1⟩
  rw [hna] at c2
  have i1 : (0 : Int) ≤ (i : Int) := by omega
  have i2 : (i : Int) < (na : Int) := by omega
  rw [Nat.mul_comm] at hx hu
  have HI : Hid (Inv g w) := hi
  have e1 := eqlU_n
  have e2 := eqlU_f
  have hap : a = .plain t ∨ appl a l = some t := by
    unfold argV at ha
    rw [hia] at ha
    split at ha
    · rename_i t' he
      left
      rw [Option.some.inj ha] at he
      exact Option.some.inj he
    · rename_i a' he
      right
      rw [Option.some.inj he]
      exact ha
    · cases ha
  rcases hap with rfl | hap
  · obtain ⟨⟨bx, rfl, hbx⟩, rfl⟩ := hAr.plain
    have HB : Hid (g.l bx = some t) := hbx
    unfold ptr
    clear hi hv hr hl ha hia hA hob hAr hna hbx
    go_enter Tryz.func22, Tryz.ntmps22
    go_wp2_with fail
    refine bodyPost_ret (v := .pointer (some ⟨bx, 0, none⟩)) (by simp [results, Tryz.results22, go_sem]) rfl ⟨g, bx, rfl, .refl HI.out, HB.out⟩
  · obtain ⟨cf, ca, rfl, hE, hC⟩ := under_any hi hAr hap q cap hr hl
    unfold Enters at hE
    unfold ptr
    clear hi hv hr hl ha hia hA hob hAr hna hap
    go_enter Tryz.func22, Tryz.ntmps22
    go_wp2_with fail
    refine hC.mono ?_
    rintro e w1 ⟨g1, c3, fi3, ca3, rfl, hs1, hd1⟩
    have HS : Hid (Ste g w g1 w1 ∧ DoIs g1 w1 (.func (.func c3) fi3 ca3) t) := ⟨hs1, hd1⟩
    clear hs1 hd1 hC
    go_wp2_with fail
    have hL : Below w1.heap.size w1 (w1.alloc (.cells #[.func (.func c3) fi3 ca3, .pointer none] 85)) := (Below.refl _ _).alloc (Nat.le_refl _) _
    have k3 := HS.out.1.growL hL (b := w1.heap.size) (t := t) (Nat.le_refl _) (.inr ⟨_, Blk.new _ _ _, ⟨_, _, _, rfl⟩, HS.out.2.along (Mor.growL HS.out.1.inv hL _ (Nat.le_refl _))⟩)
    refine bodyPost_ret (v := .pointer (some ⟨w1.heap.size, 0, none⟩)) (by simp [results, Tryz.results22, go_sem]) rfl ⟨_, _, rfl, k3, Gh.addL_at _ _ _⟩

set_option maxHeartbeats 2000000 in
theorem mkUnder_any (pm la lb : Nat) (kind : Int) (m : Mk) (a b : Th) (g : Gh) (w : World) (hi : Inv g w) (hm : MkIs g w pm m) (ha : g.l la = some a) (hb : g.l lb = some b) :
    Calls Tryz.prog 172 #[ptr pm, .int .i64 kind, ptr la, ptr lb] w (LatP g w (.val (.mk kind 0 [.plain a, .underU m.bound b]))) := by
  obtain ⟨pd, capd, hmb, _, _⟩ := hm
  unfold ptr
  obtain ⟨W, hW, hbW, B1, B2, B3, hz⟩ := lay3 w #[.pointer (some ⟨pm, 0, none⟩)] #[.pointer (some ⟨lb, 0, none⟩)] #[.pointer none] 44 43 47
  obtain ⟨X, hX, hbX, R1, R2, hzX⟩ := lay2 W #[.pointer (some ⟨la, 0, none⟩), .nilFunc, .pointer none, .func (.func 177) #[] #[.pointer (some ⟨w.heap.size, 0, none⟩), .pointer (some ⟨w.heap.size + 1, 0, none⟩), .pointer (some ⟨w.heap.size + 1 + 1, 0, none⟩)]] #[.int .i64 kind, .int .i64 0, .slice (some ⟨W.heap.size, 0, none⟩) 2 2] 91 88
  have hbX2 : Below w.heap.size w X := hbW.trans (hbX.mono (by omega))
  obtain ⟨g1, h1, hm1, hbox, hfree⟩ := lay_box hi hbX2 4 (by omega)
  have hvn : g1.v (W.heap.size + 1) = none := by
    cases e : g1.v (W.heap.size + 1) with
    | none => rfl
    | some v => exact absurd (h1.inv.vo e) (hfree _ (by omega)).2
  have hmv : Mor g1 X (g1.addV (W.heap.size + 1) (.mk kind 0 [.plain a, .underU m.bound b])) X := .addV hvn
  have hmm := hm1.trans hmv
  have h2 := h1.addV (b := W.heap.size + 1) (v := .mk kind 0 [.plain a, .underU m.bound b]) (by omega) hvn (hfree _ (by omega)).1 (by
    refine ⟨some ⟨W.heap.size, 0, none⟩, 2, ⟨.inr rfl, R2⟩, fun _ => ⟨W.heap.size, _, rfl, ⟨.inl (hbox _ (by omega) (by omega)), R1⟩, fun i x hx => ?_⟩⟩
    match i, hx with
    | 0, hx => obtain rfl := Option.some.inj hx; exact ⟨_, _, rfl, rfl, ⟨la, rfl, hmm.l _ _ ha⟩, rfl⟩
    | 1, hx =>
      obtain rfl := Option.some.inj hx
      exact ⟨_, _, rfl, rfl, rfl, _, _, _, pm, lb, _, rfl, ⟨.inl (hbox _ (by omega) (by omega)), B1.below hbX⟩, ⟨.inl (hbox _ (by omega) (by omega)), B2.below hbX⟩, hmm.l _ _ hb, hmb.along hmm⟩
    | i + 2, hx => simp [Nd.args] at hx)
  have HC := known_any (W.heap.size + 1) _ _ X h2.inv (Gh.addV_at _ _ _)
  have HS : Hid (Ste g w (g1.addV (W.heap.size + 1) (.mk kind 0 [.plain a, .underU m.bound b])) X) := h2
  unfold ptr at HC
  clear hi hmb ha hb hbW hbX hbX2 h1 hm1 hbox hfree hvn hmv hmm h2 hz hzX B1 B2 B3 R1 R2
  go_enter Tryz.func172, Tryz.ntmps172
  go_wp2_with fail
  refine HC.mono ?_
  rintro e w1 ⟨g3, bb, rfl, hs, hl⟩
  have HF : Hid (LatP g w (.val (.mk kind 0 [.plain a, .underU m.bound b])) (.returned (ptr bb)) w1) := ⟨g3, bb, rfl, HS.out.trans hs, hl⟩
  unfold ptr at *
  clear hs hl
  go_wp2_with fail
  refine bodyPost_ret (v := .pointer (some ⟨bb, 0, none⟩)) (by simp [results, Tryz.results172, go_sem]) rfl HF.out
end Go.Proofs.YthfjmcomhccbaaaGreatDoor

namespace Go.Proofs.YthfjmcomhccbaaaGreatDoor
open Go.RowKit Tmx Evx
set_option maxRecDepth 60000

theorem noArgs_row2 (c : Nat) (w : World) : ∃ G, (w.alloc (.cells (noArgs c) 91)).rowIs w.heap.size 91 (c * 2) G ∧ ∀ i, G (2 * i + 1) = .nilFunc := by
  have h := World.rowIs_alloc w (noArgs c) 91 (fun i => if i % 2 = 0 then .pointer none else .nilFunc) (fun i hi => by
    have hi2 : i < c * 2 := by rw [← show (noArgs c).size = c * 2 from size_madeCells _ _]; exact hi
    unfold noArgs madeCells
    rw [Array.getElem?_map, Array.getElem?_range, if_pos hi2]
    rcases Nat.mod_two_eq_zero_or_one i with h | h
    · simp [h]
    · simp [h])
  rw [show (noArgs c).size = c * 2 from size_madeCells _ _] at h
  exact ⟨_, h, fun i => by show (if (2 * i + 1) % 2 = 0 then _ else _) = _; rw [if_neg (by omega)]⟩

set_option maxHeartbeats 4000000 in
theorem of_any (kind : Int) (q : Option Addr) (cap : Nat) (l : List Th) (g : Gh) (w : World) (hi : Inv g w) (hr : RowL g w q l) (hl : l.length ≤ 1000) :
    Calls Tryz.prog 54 #[.int .i64 kind, .slice q l.length cap] w (LatP g w (.of (.mk kind 0 (l.map .plain)))) := by
  obtain ⟨len, hlen⟩ : ∃ n, l.length = n := ⟨_, rfl⟩
  obtain ⟨X, hX, hb, B1, B2, B3, hz⟩ := lay3 w (noArgs len) #[.int .i64 kind, .int .i64 0, .slice (some ⟨w.heap.size, 0, none⟩) len len] #[.pointer (some ⟨w.heap.size + 1, 0, none⟩)] 91 88 62
  have hG : ∃ G, X.rowIs w.heap.size 91 (len * 2) G ∧ ∀ i, G (2 * i + 1) = .nilFunc := by
    obtain ⟨G, h1, h2⟩ := noArgs_row2 len w
    exact ⟨G, h1.of_block (by rw [B1]; exact (heap_alloc_new _ _).symm), h2⟩
  have HS : Hid (Inv g w ∧ RowL g w q l ∧ Below w.heap.size w X) := ⟨hi, hr, hb⟩
  have hmk := makeArgs len (by omega)
  have HB : Hid (Blk X (w.heap.size + 1) #[.int .i64 kind, .int .i64 0, .slice (some ⟨w.heap.size, 0, none⟩) len len] 88 ∧ Blk X (w.heap.size + 1 + 1) #[.pointer (some ⟨w.heap.size + 1, 0, none⟩)] 62) := ⟨B2, B3⟩
  rw [hlen]
  have HL : Hid (l.length = len) := hlen
  have hl2 : len ≤ 1000 := by omega
  clear hi hr hb B1 B2 B3 hlen
  go_enter Tryz.func54, Tryz.ntmps54
  go_wp2_with fail
  go_loopg [16] len (fun gg i wr => ∃ (j : Nat) (G : Nat → Value), gg = len - j ∧ j ≤ len ∧ i = .int .i64 (j : Int) ∧ Below w.heap.size w wr ∧ Blk wr (w.heap.size + 1) #[.int .i64 kind, .int .i64 0, .slice (some ⟨w.heap.size, 0, none⟩) len len] 88 ∧ Blk wr (w.heap.size + 1 + 1) #[.pointer (some ⟨w.heap.size + 1, 0, none⟩)] 62 ∧
    wr.rowIs w.heap.size 91 (len * 2) G ∧ Hid ((∀ i, G (2 * i + 1) = .nilFunc) ∧ ∀ (i : Nat) (t : Th), i < j → l[i]? = some t → ∃ b, G (2 * i) = .pointer (some ⟨b, 0, none⟩) ∧ g.l b = some t))
  case atStart =>
    obtain ⟨G, h1, h2⟩ := hG
    exact ⟨0, G, rfl, Nat.zero_le _, rfl, HS.out.2.2, HB.out.1, HB.out.2, h1, h2, fun i t h => absurd h (by omega)⟩
  case round =>
    clear hG hX hmk
    obtain ⟨j, G, hgg, hj, rfl, hbw, hV, hBx, hGw, hA⟩ := hrel
    have hrw := RowL.keep HS.out.1 (.of_below hbw) HS.out.2.1
    obtain ⟨v0, v1, v2, _⟩ := hV.three
    obtain ⟨y0, _⟩ := hBx.one
    by_cases hlt : j < len
    · obtain ⟨t, ht⟩ : ∃ t, l[j]? = some t := ⟨_, List.getElem?_eq_getElem (by rw [HL.out]; exact hlt)⟩
      obtain ⟨b, bx, rfl, hc, hbx⟩ := hrw.at ht
      have HT : Hid (l[j]? = some t ∧ g.l bx = some t) := ⟨ht, hbx⟩
      have c0 := hGw.cell (i := j * 2) (by omega)
      have f0 := hGw.frozen (j * 2)
      have i1 : (0 : Int) ≤ (j : Int) := by omega
      have i2 : (j : Int) < (len : Int) := by omega
      clear hrw ht hbx v0 v1
      go_wp2_with fail
      go_roundg (len - (j + 1))
      case measure => rw [hgg]; omega
      case rel =>
        refine ⟨j + 1, _, rfl, hlt, by go_num, hbw.setCell (Nat.le_refl _) _, hV.setOther (by show w.heap.size + 1 ≠ w.heap.size; omega) _, hBx.setOther (by show w.heap.size + 1 + 1 ≠ w.heap.size; omega) _, hGw.set (j * 2) _, fun i => ?_, fun i t' hi hit => ?_⟩
        · show (if 2 * i + 1 = j * 2 then _ else _) = _
          rw [if_neg (by omega)]; exact hA.out.1 i
        · by_cases hij : i < j
          · obtain ⟨b', h1, h2⟩ := hA.out.2 i t' hij hit
            exact ⟨b', by show (if 2 * i = j * 2 then _ else _) = _; rw [if_neg (by omega)]; exact h1, h2⟩
          · have hij2 : i = j := by omega
            subst hij2
            rw [HT.out.1] at hit
            obtain rfl := Option.some.inj hit
            exact ⟨bx, by show (if 2 * i = i * 2 then _ else _) = _; rw [if_pos (by omega)], HT.out.2⟩
    · obtain ⟨cs, hcs, hcn, hcc⟩ := hGw
      have hi := HS.out.1
      have h0 := Ste.below hi hbw
      have hrl := (show Blk wr w.heap.size cs 91 from hcs).lt
      have h1 := h0.addO (fun b => b = w.heap.size ∨ b = w.heap.size + 1 + 1) (fun b h => by
        rcases h with rfl | rfl
        · exact ⟨Nat.le_refl _, hrl, hi.l_new (Nat.le_refl _)⟩
        · exact ⟨by omega, hBx.lt, hi.l_new (by omega)⟩)
      have hvn : (g.addO (fun b => b = w.heap.size ∨ b = w.heap.size + 1 + 1)).v (w.heap.size + 1) = none := hi.v_new (by omega)
      have m2 : Mor (g.addO (fun b => b = w.heap.size ∨ b = w.heap.size + 1 + 1)) wr ((g.addO (fun b => b = w.heap.size ∨ b = w.heap.size + 1 + 1)).addV (w.heap.size + 1) (.mk kind 0 (l.map .plain))) wr := .addV hvn
      have hml : (l.map Nd.plain).length = len := by rw [List.length_map]; exact HL.out
      have h2 := h1.addV (b := w.heap.size + 1) (v := .mk kind 0 (l.map .plain)) (by omega) hvn (hi.l_new (by omega)) (by
        refine ⟨some ⟨w.heap.size, 0, none⟩, len, ⟨.inr rfl, ?_⟩, fun _ => ⟨w.heap.size, cs, rfl, ⟨.inl (.inr (.inl rfl)), hcs⟩, fun i a hia => ?_⟩⟩
        · show Blk wr _ #[.int .i64 kind, .int .i64 0, .slice (some ⟨w.heap.size, 0, none⟩) (l.map Nd.plain).length len] _
          rw [hml]; exact hV
        · have hi2 : i < len := by rw [← hml]; exact (List.getElem?_eq_some_iff.1 hia).1
          have hia' : (l.map Nd.plain)[i]? = some a := hia
          rw [List.getElem?_map] at hia'
          obtain ⟨t, ht, rfl⟩ := Option.map_eq_some_iff.1 hia'
          obtain ⟨b, e1, e2⟩ := hA.out.2 i t (by omega) ht
          exact ⟨_, _, hcc (2 * i) (by omega), hcc (2 * i + 1) (by omega), ⟨b, e1, e2⟩, hA.out.1 i⟩)
      have hL : Below wr.heap.size wr (wr.alloc (.cells #[.func (.func 71) #[] #[.pointer (some ⟨w.heap.size + 1 + 1, 0, none⟩)], .pointer none] 85)) := (Below.refl _ _).alloc (Nat.le_refl _) _
      have h3 := h2.growL hL (b := wr.heap.size) (t := .of (.mk kind 0 (l.map .plain))) (Nat.le_refl _) (.inr ⟨_, Blk.new _ _ _, ⟨_, _, _, rfl⟩, w.heap.size + 1 + 1, w.heap.size + 1, rfl, BlkO.along (Mor.growL h2.inv hL _ (Nat.le_refl _)) ⟨.inl (.inr (.inr rfl)), hBx⟩, Gh.addV_at _ _ _⟩)
      have HF : Hid (LatP g w (.of (.mk kind 0 (l.map .plain))) (.returned (.pointer (some ⟨wr.heap.size, 0, none⟩))) (wr.alloc (.cells #[.func (.func 71) #[] #[.pointer (some ⟨w.heap.size + 1 + 1, 0, none⟩)], .pointer none] 85))) := ⟨_, _, rfl, h3, Gh.addL_at _ _ _⟩
      clear hcs hcn hcc hi h0 hrl h1 hvn m2 hml h2 hL h3 hrw hA hbw hV hBx
      go_wp2_with fail
      refine bodyPost_ret (v := .pointer (some ⟨wr.heap.size, 0, none⟩)) (by simp [results, Tryz.results54, go_sem]) rfl HF.out
end Go.Proofs.YthfjmcomhccbaaaGreatDoor
