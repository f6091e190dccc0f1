/-
  Contracts: what an argument is of those that it has bound: isFree, arg's and Under's closures.
-/
/-
  Contracts: what call does with what was a function.
-/
/-
  Contracts: came.
-/
import Derived.Test.YthfjmcomhccbaaaGreatDoorE6m
import Derived.BigRegion
namespace Go.Proofs.YthfjmcomhccbaaaGreatDoor
open Go.RowKit Tmx Evx
set_option maxRecDepth 60000

/-- What works a thunk out is answered. -/
def DoP (g : Gh) (w : World) (t : Th) (e : Ending) (w' : World) : Prop := ∃ g' c fi ca, e = .returned (.func (.func c) fi ca) ∧ Ste g w g' w' ∧ DoIs g' w' (.func (.func c) fi ca) t

theorem isFree_any (b : Nat) (n : Int) (g : Gh) (w : World) (hi : Inv g w) (hl : g.l b = some (.val (free n))) :
    Calls Tryz.prog 178 #[ptr b, .int .i64 n] w fun e w' => e = .returned (.bool true) ∧ w' = w := by
  rcases hi.l b _ hl with ⟨q, v, hB, hv, hy⟩ | ⟨_, _, _, hd⟩
  · have hvv : v = free n := hy.unique (.val _)
    subst hvv
    have HI := is_any q (free n) 1 0 g w hi hv
    obtain ⟨p, cap, c0, c1, c2, _⟩ := (hi.v q _ hv).cells
    obtain ⟨b0, b1, _, _⟩ := hB.two
    have hnn := eql_nn
    rw [show (free n).is 1 0 = true from rfl] at HI
    unfold free Nd.kind Nd.num Nd.args at *
    simp only at c0 c1
    unfold ptr at *
    clear hi hl hB hv hy c2
    go_enter Tryz.func178, Tryz.ntmps178
    go_wp2_with (first | (refine HI.mono ?_; rintro e w1 ⟨rfl, rfl⟩))
    refine bodyPost_ret (v := .bool true) (by simp [results, Tryz.results178, go_sem]) rfl ⟨rfl, rfl⟩
  · exact hd.elim

set_option maxHeartbeats 800000 in
theorem arg1_any (q : Option Addr) (cap bi bm bt : Nat) (m : Mk) (k n : Int) (f : F) (env l : List Th) (g : Gh) (w : World) (hi : Inv g w) (hc : CapIs g w bm bt bi m k n f env) (hr : RowL g w q l) (hl : l.length ≤ 1099511627776) :
    Calls Tryz.prog 65 #[.slice q l.length cap, ptr bi, ptr bm, ptr bt] w (DoP g w (.tm m k n f (l.reverse ++ env))) := by
  obtain ⟨pm, tb, to, p, h1, h2, h3, h4, h5, h6⟩ := hc
  have HF := further_any p env q cap l g w hi h6 hr hl
  obtain ⟨a0, _⟩ := h3.2.one
  have HK : Hid (Inv g w ∧ BlkO g w bm #[ptr pm] 44 ∧ BlkO g w bt #[.pointer (some ⟨tb, to, none⟩)] 47 ∧ MkIs g w pm m ∧ TmAt g.o w tb to k n f) := ⟨hi, h1, h2, h4, h5⟩
  unfold ptr at *
  clear hi h1 h2 h3 h4 h5 h6 hr
  go_enter Tryz.func65, Tryz.ntmps65
  go_wp2_with fail
  refine HF.mono ?_
  rintro e w1 ⟨g1, p1, rfl, hs, he⟩
  obtain ⟨x1, rfl⟩ := he.pointer
  have HS : Hid (Ste g w g1 w1 ∧ EnvIs g1 w1 (.pointer x1) (l.reverse ++ env)) := ⟨hs, he⟩
  clear HF hs he
  go_wp2_with fail
  obtain ⟨hs, he⟩ := HS.out
  obtain ⟨hi, h1, h2, h4, h5⟩ := HK.out
  have hm := hs.mor hi
  obtain ⟨W, hW, hb, B1, hz⟩ := lay1 w1 #[.pointer x1] 71
  obtain ⟨h7, hm2⟩ := hs.grow hb (fun b => b = w1.heap.size) (fun b h => by omega)
  have hmm := hm.trans hm2
  have HD : Hid (DoP g w (.tm m k n f (l.reverse ++ env)) (.returned (.func (.func 66) #[] #[.pointer (some ⟨bm, 0, none⟩), .pointer (some ⟨bt, 0, none⟩), .pointer (some ⟨w1.heap.size, 0, none⟩)])) W) :=
    ⟨_, _, _, _, rfl, h7, _, bm, bt, w1.heap.size, .inr rfl, rfl, pm, tb, to, .pointer x1, h1.along hmm, h2.along hmm, ⟨.inr rfl, B1⟩, h4.along hmm, h5.mor hmm, he.along hm2⟩
  rw [hW]
  refine bodyPost_ret (v := .func (.func 66) #[] #[.pointer (some ⟨bm, 0, none⟩), .pointer (some ⟨bt, 0, none⟩), .pointer (some ⟨w1.heap.size, 0, none⟩)]) (by simp [results, Tryz.results65, go_sem]) rfl HD.out

set_option maxHeartbeats 800000 in
theorem under1_any (q : Option Addr) (n cap bm bl bt pm lb : Nat) (mp : Value) (bnd : Int) (t : Th) (l : List Th) (g : Gh) (w : World) (hi : Inv g w) (h1 : BlkO g w bm #[ptr pm] 44) (h2 : BlkO g w bl #[ptr lb] 43) (h3 : g.l lb = some t) (h4 : BlkO g w pm #[.int .i64 bnd, mp] 67)
    (hr : RowL g w q (.val (free bnd) :: l)) (hn : n = (Nd.val (free bnd) :: l).length) :
    Calls Tryz.prog 177 #[.slice q n cap, ptr bm, ptr bl, ptr bt] w (DoP g w (.via t)) := by
  obtain ⟨b, bx, rfl, hc, hbx⟩ := hr.at (i := 0) rfl
  have hlb := World.block_lt_of_cell? w ⟨b, 0, none⟩ hc
  obtain ⟨W, hW, hb, R, hz⟩ := lay1 w #[.slice (some ⟨b, 0, none⟩) n cap] 65
  have hs := Ste.below hi hb
  have hmo := hs.mor hi
  have HI : Calls Tryz.prog 178 #[.pointer (some ⟨bx, 0, none⟩), .int .i64 bnd] W.drew fun e w' => e = .returned (.bool true) ∧ w' = W.drew :=
    isFree_any bx bnd g W.drew (Ste.drew hs.inv).inv hbx
  have hcW : W.cell? ⟨b, 0, none⟩ = some (.pointer (some ⟨bx, 0, none⟩)) := by rw [hb.cell (p := ⟨b, 0, none⟩) hlb]; exact hc
  obtain ⟨a0, _⟩ := (h1.along hmo).2.one
  obtain ⟨b0, _⟩ := (h2.along hmo).2.one
  obtain ⟨c0, _, _, _⟩ := (h4.along hmo).2.two
  obtain ⟨r0, _⟩ := R.one
  have hn0 : 0 < n := by rw [hn]; simp
  have HF : Hid (DoP g w (.via t) (.returned (.func (.func 29) #[.pointer (some ⟨lb, 0, none⟩)] #[])) W.drew) := ⟨g, _, _, _, rfl, hs.trans (.drew hs.inv), lb, rfl, h3⟩
  unfold ptr at *
  clear hi h1 h2 h3 h4 hr hn hs hmo hb hc
  go_enter Tryz.func177, Tryz.ntmps177
  go_wp2_with fail
  go_region_held3 (fun w' => w'.cell? ⟨b, 0, none⟩ = some (.pointer (some ⟨bx, 0, none⟩)) ∧ w'.cell? ⟨bm, 0, none⟩ = some (.pointer (some ⟨pm, 0, none⟩)) ∧ w'.cell? ⟨pm, 0, none⟩ = some (.int .i64 bnd) ∧ w'.cell? ⟨w.heap.size, 0, none⟩ = some (.slice (some ⟨b, 0, none⟩) n cap)) (go_keep)
    (first | (go_at_call 178; refine HI.mono ?_; rintro e w1 ⟨rfl, rfl⟩))
  go_wp2_with fail
  refine bodyPost_ret (v := .func (.func 29) #[.pointer (some ⟨lb, 0, none⟩)] #[]) (by simp [results, Tryz.results177, go_sem]) rfl HF.out

theorem ent_arg1 : Enters 65 := fun a W => by kernel_rfl
theorem ent_arg11 : Enters 66 := fun a W => by kernel_rfl
theorem ent_later1 : Enters 32 := fun a W => by kernel_rfl
theorem ent_under1 : Enters 177 := fun a W => by kernel_rfl
theorem ent_of1 : Enters 71 := fun a W => by kernel_rfl
theorem ent_came1 : Enters 111 := fun a W => by kernel_rfl

/-- What an argument that has some bound is of those. -/
theorem under_any {g : Gh} {w : World} (hi : Inv g w) {x u : Value} {a : Ar} {l : List Th} {t : Th} (h : ArIs g w x u a) (ha : appl a l = some t) (q : Option Addr) (cap : Nat) (hr : RowL g w q l) (hl : l.length ≤ 1099511627776) :
    ∃ c ca, u = .func (.func c) #[] ca ∧ Enters c ∧ Calls Tryz.prog c (#[.slice q l.length cap] ++ ca) w (DoP g w t) := by
  unfold appl at ha
  split at ha
  · rename_i m k n f env
    obtain ⟨_, bi, bm, bt, rfl, hc⟩ := h
    obtain rfl := Option.some.inj ha
    exact ⟨_, _, rfl, ent_arg1, arg1_any q cap bi bm bt m k n f env l g w hi hc hr hl⟩
  · rename_i mj bnd kj fj b
    obtain ⟨_, bm, bl, bt, pm, lb, mp, rfl, h1, h2, h3, h4⟩ := h
    split at ha
    · split at ha
      · rename_i e
        subst e
        obtain rfl := Option.some.inj ha
        exact ⟨_, _, rfl, ent_under1, under1_any q _ cap bm bl bt pm lb mp _ b _ g w hi h1 h2 h3 h4 hr rfl⟩
      · cases ha
    · cases ha
  · cases ha
end Go.Proofs.YthfjmcomhccbaaaGreatDoor

namespace Go.Proofs.YthfjmcomhccbaaaGreatDoor
open Go.RowKit Tmx Evx
set_option maxRecDepth 60000

theorem ArgsAt.at {g : Gh} {w : World} {p : Option Addr} {l : List Ar} (h : ArgsAt g w p l) {i : Nat} {a : Ar} (e : l[i]? = some a) :
    ∃ b x u, p = some ⟨b, 0, none⟩ ∧ g.o b ∧ w.cell? ⟨b, 2 * i, none⟩ = some x ∧ w.cell? ⟨b, 2 * i + 1, none⟩ = some u ∧ ArIs g w x u a := by
  have hl : i < l.length := (List.getElem?_eq_some_iff.1 e).1
  obtain ⟨b, cs, hp, hb, hi⟩ := h (by omega)
  obtain ⟨x, u, hx, hu, ha⟩ := hi i a e
  exact ⟨b, x, u, hp, hb.1, by rw [hb.2.cell]; exact hx, by rw [hb.2.cell]; exact hu, ha⟩
theorem plainOf_some {l : List Ar} {i : Nat} {t : Th} (h : plainOf l i = some t) : l[i]? = some (.plain t) := by
  unfold plainOf at h
  dsimp only at h
  split at h
  · rename_i e
    rw [e]
    obtain rfl := Option.some.inj h
    rfl
  · cases h
theorem underOf_some {l : List Ar} {i : Nat} {bs : List Th} {t : Th} (h : underOf l i bs = some t) : ∃ a, l[i]? = some a ∧ appl a bs = some t := by
  cases e : l[i]? with
  | none => simp [underOf, e] at h
  | some a => exact ⟨a, rfl, by simpa [underOf, e] using h⟩
theorem Nd.is_iff {v : V} {k : Int} {m : Nat} (h : v.is k m = true) : v.kind = k ∧ v.args.length = m := by
  simpa [Nd.is] using h

/-- What is answered: v is there, and handed to 'to'. -/
theorem nx_here {g g' : Gh} {w w' : World} {v : V} {c : Nat} {fi ca : Array Value} {q : Nat} (B : Nat) (hs : Ste g w g' w') (hv : g'.v q = some v) : NxP g w v (.func (.func c) fi ca) B TT (.returned (.agg #[.func (.func c) fi ca, ptr q])) w' :=
  ⟨g', _, _, _, _, rfl, hs, .here hs.inv hv fun _ _ => trivial⟩
/-- What a callee answers is answered, by way of the block r. -/
theorem nx_set {g g1 g2 : Gh} {w w1 w2 : World} {v : V} {to a : Value} {p : Option Addr} {B : Nat} {D : World → Nat → Prop} {r : Nat} (h1 : Ste g w g1 w1) (h2 : Ste g1 w1 g2 w2) (hC : Cont B v to D g2 w2 (.agg #[a, .pointer p])) (hr : w.heap.size ≤ r) (hlt : r < w1.heap.size) (hl : g1.l r = none) (ho : ¬ g1.o r) :
    Ste g w g2 ((w2.setCell ⟨r, 0, none⟩ a).setCell ⟨r, 1, none⟩ (.pointer p)) ∧ Cont B v to D g2 ((w2.setCell ⟨r, 0, none⟩ a).setCell ⟨r, 1, none⟩ (.pointer p)) (.agg #[a, .pointer p]) ∧ (∀ cs T, Blk w1 r cs T → Blk w2 r cs T) := by
  obtain ⟨a1, a2, a3⟩ := h1.mine h2 hlt hl ho
  exact ⟨Ste.set2 (h1.trans h2) hr a1 a2 _ _, hC.pri (Pri.set2 a1 a2 _ _), fun cs T hb => hb.of_eq a3⟩

theorem Mor.cell {g g' : Gh} {w w' : World} (h : Mor g w g' w') {b : Nat} (ho : g.o b) (i : Nat) : w'.cell? ⟨b, i, none⟩ = w.cell? ⟨b, i, none⟩ := World.cell?_of_block (w := w) (h.same b ho)
theorem Mor.put {g g' : Gh} {w w' : World} (h : Mor g w g' w') {b i : Nat} {v : Value} (ho : g.o b) (hc : w.cell? ⟨b, i, none⟩ = some v) : w'.cell? ⟨b, i, none⟩ = some v := by rw [h.cell ho]; exact hc

set_option maxHeartbeats 2000000 in
theorem call1_any (s B : Nat) (hD : DoingP s B) (qf qa ba bt c : Nat) (fi ca : Array Value) (vf va v : V) (g : Gh) (w : World) (hi : Inv g w) (hvf : g.v qf = some vf) (hba : BlkO g w ba #[ptr qa] 62) (hva : g.v qa = some va) (hbt : BlkO g w bt #[.func (.func c) fi ca] 79)
    (hK : (if vf.is 4 2 then (match plainOf va.args 1 with | some x => (match underOf vf.args 1 [x] with | some d => ev s d | none => none) | none => none) else some va) = some v) :
    Calls Tryz.prog 83 #[ptr qf, ptr ba, ptr bt] w (NxP g w v (.func (.func c) fi ca) B TT) := by
  obtain ⟨W, hW, hb, R, hz⟩ := lay1 w #[.nilFunc, .pointer none] 81
  have hs0 := Ste.below hi hb
  have hm0 := hs0.mor hi
  have HI := is_any qf vf 4 2 g W hs0.inv hvf
  obtain ⟨ba0, _⟩ := (hba.along hm0).2.one
  obtain ⟨bt0, _⟩ := (hbt.along hm0).2.one
  obtain ⟨r0, r1, r2, r3⟩ := R.two
  have HR : Hid (g.l w.heap.size = none ∧ ¬ g.o w.heap.size ∧ Blk W w.heap.size #[.nilFunc, .pointer none] 81) := ⟨hi.l_new (Nat.le_refl _), hi.o_new (Nat.le_refl _), R⟩
  have HS : Hid (Ste g w g W) := hs0
  unfold ptr at *
  cases hf : vf.is 4 2
  · rw [hf] at HI hK
    simp only [Bool.false_eq_true, if_false, Option.some.injEq] at hK
    subst hK
    have hR2 := R.set2 (.func (.func c) fi ca) (.pointer (some ⟨qa, 0, none⟩))
    obtain ⟨s0, s1, _, _⟩ := hR2.two
    have HF : Hid (NxP g w va (.func (.func c) fi ca) B TT (.returned (.agg #[.func (.func c) fi ca, .pointer (some ⟨qa, 0, none⟩)])) ((W.setCell ⟨w.heap.size, 0, none⟩ (.func (.func c) fi ca)).setCell ⟨w.heap.size, 1, none⟩ (.pointer (some ⟨qa, 0, none⟩)))) :=
      nx_here B (Ste.set2 HS.out (Nat.le_refl _) HR.out.1 HR.out.2.1 _ _) hva
    clear hi hvf hba hva hbt hs0 hm0 hD hb hR2 R hf
    go_enter Tryz.func83, Tryz.ntmps83
    go_wp2_with (first | (refine HI.mono ?_; rintro e w1 ⟨rfl, rfl⟩))
    refine bodyPost_ret (v := .agg #[.func (.func c) fi ca, .pointer (some ⟨qa, 0, none⟩)]) (by simp [results, Tryz.results83, go_sem, s0, s1]) rfl HF.out
  · rw [hf] at HI hK
    simp only [if_true] at hK
    obtain ⟨hfk, hfl⟩ := Nd.is_iff hf
    -- the argument
    obtain ⟨x, hx⟩ : ∃ x, plainOf va.args 1 = some x := by
      cases h : plainOf va.args 1 with
      | none => rw [h] at hK; cases hK
      | some x => exact ⟨x, rfl⟩
    rw [hx] at hK
    simp only at hK
    obtain ⟨d, hd⟩ : ∃ d, underOf vf.args 1 [x] = some d := by
      cases h : underOf vf.args 1 [x] with
      | none => rw [h] at hK; cases hK
      | some x => exact ⟨x, rfl⟩
    rw [hd] at hK
    simp only at hK
    obtain ⟨a, ha, hap⟩ := underOf_some hd
    obtain ⟨pf, capf, f0, f1, f2, hfa⟩ := (hs0.inv.v qf vf hvf).cells
    obtain ⟨bf, fx, fu, rfl, hof, _, hfu, hA⟩ := hfa.at ha
    obtain ⟨pa, capa, a0, a1, a2, haa⟩ := (hs0.inv.v qa va hva).cells
    obtain ⟨bA, ax, au, rfl, hoa, hax, _, ⟨bx, rfl, hbx⟩, _⟩ := haa.at (plainOf_some hx)
    -- the row that is built
    have hd0 := Ste.drew hs0.inv
    obtain ⟨W2, hW2, hb2, R2, hz2⟩ := lay1 W.drew #[.pointer (some ⟨bx, 0, none⟩)] 43
    have hs2 := hd0.trans (Ste.below hd0.inv hb2)
    have hm2 := hs2.mor hs0.inv
    obtain ⟨c1, ca1, rfl, hE1, hC1⟩ := under_any hs2.inv (hA.along hm2) hap (some ⟨W.drew.heap.size, 0, none⟩) 1 (fun _ => ⟨_, _, rfl, R2, fun i t ht => by
      cases i with
      | zero =>
        simp only [List.getElem?_cons_zero, Option.some.injEq] at ht
        subst ht
        exact ⟨_, rfl, bx, rfl, hbx⟩
      | succ i => simp at ht⟩) (by simp)
    unfold Enters at hE1
    have hoqf : g.o qf := by obtain ⟨_, _, h, _⟩ := hs0.inv.v qf vf hvf; exact h.1
    have hoqa : g.o qa := by obtain ⟨_, _, h, _⟩ := hs0.inv.v qa va hva; exact h.1
    have HC1 : Calls Tryz.prog c1 (#[.slice (some ⟨w.heap.size + 1, 0, none⟩) 1 1] ++ ca1) W2 (DoP g W2 d) := by rw [← hz]; exact hC1
    have HO : Hid ((g.o qf ∧ g.o qa ∧ g.o bf ∧ g.o bA ∧ g.o ba ∧ g.o bt) ∧ Mor g W g W2 ∧ Ste g W g W2 ∧ DoingP s B ∧ ev s d = some v) := ⟨⟨hoqf, hoqa, hof, hoa, hba.1, hbt.1⟩, hm2, hs2, hD, hK⟩
    have n1 := (hs0.inv.o _ hoqf).2
    have n2 := (hs0.inv.o _ hoqa).2
    have n3 := (hs0.inv.o _ hof).2
    have n4 := (hs0.inv.o _ hoa).2
    have n5 := (hs0.inv.o _ hba.1).2
    have n6 := (hs0.inv.o _ hbt.1).2
    have m1 : w.heap.size ≠ qf := fun e => HR.out.2.1 (e ▸ hoqf)
    have m2 : w.heap.size ≠ qa := fun e => HR.out.2.1 (e ▸ hoqa)
    have m3 : w.heap.size ≠ bf := fun e => HR.out.2.1 (e ▸ hof)
    have m4 : w.heap.size ≠ bA := fun e => HR.out.2.1 (e ▸ hoa)
    have m5 : w.heap.size ≠ ba := fun e => HR.out.2.1 (e ▸ hba.1)
    have m6 : w.heap.size ≠ bt := fun e => HR.out.2.1 (e ▸ hbt.1)
    have b1 := hm2.put hoqf f2
    have b2 := hm2.put hof hfu
    have b3 := hm2.put hoqa a2
    have b4 := hm2.put hoa hax
    have b5 := hm2.put hba.1 ba0
    have b6 := hm2.put hbt.1 bt0
    unfold ptr at *
    rw [show 2 * 1 + 1 = 3 from rfl] at hfu b2
    rw [show 2 * 1 = 2 from rfl] at hax b4
    have hlv : (1 : Nat) < vf.args.length := by omega
    have hla : (1 : Nat) < va.args.length := (List.getElem?_eq_some_iff.1 (plainOf_some hx)).1
    have hf2 : vf.args.length = 2 := hfl
    rw [hf2] at f2 b1
    obtain ⟨na, hna, hna1⟩ : ∃ na, va.args.length = na ∧ 1 < na := ⟨_, rfl, hla⟩
    rw [hna] at a2 b3
    have hna2 : (1 : Int) < (na : Int) := by omega
    clear hi hvf hba hva hbt hs0 hm0 hD hb R hf hfk hfl hx hd hK ha hap f0 f1 hfa hof a0 a1 haa hoa hbx hd0 hb2 R2 hs2 hm2 hA hC1 hoqf hoqa hlv hla hf2 hna
    go_enter Tryz.func83, Tryz.ntmps83
    go_wp2_with (first | (refine HI.mono ?_; rintro e w1 ⟨rfl, rfl⟩))
    go_region_held3 (fun w' => w'.cell? ⟨qf, 2, none⟩ = some (.slice (some ⟨bf, 0, none⟩) 2 capf) ∧ w'.cell? ⟨bf, 3, none⟩ = some (.func (.func c1) #[] ca1) ∧ w'.cell? ⟨qa, 2, none⟩ = some (.slice (some ⟨bA, 0, none⟩) na capa) ∧ w'.cell? ⟨bA, 2, none⟩ = some (.pointer (some ⟨bx, 0, none⟩)) ∧ w'.cell? ⟨ba, 0, none⟩ = some (.pointer (some ⟨qa, 0, none⟩)) ∧ w'.cell? ⟨bt, 0, none⟩ = some (.func (.func c) fi ca)) (go_keep)
      (first
        | ((with_reducible refine HC1.mono ?_); rintro e w2 ⟨g2, c2, fi2, ca2, rfl, hs3, hd3⟩; have hm3 := hs3.mor HO.out.2.2.1.inv; have d1 := hm3.put HO.out.1.1 b1; have d2 := hm3.put HO.out.1.2.2.1 b2; have d3 := hm3.put HO.out.1.2.1 b3; have d4 := hm3.put HO.out.1.2.2.2.1 b4; have d5 := hm3.put HO.out.1.2.2.2.2.1 b5; have d6 := hm3.put HO.out.1.2.2.2.2.2 b6; obtain ⟨c3, fi3, ca3, he3, hE3, hC3⟩ := HO.out.2.2.2.1 g2 w2 _ d v c fi ca hs3.inv hd3 HO.out.2.2.2.2; obtain ⟨hfn3, rfl, rfl⟩ := Value.func.inj he3; obtain rfl := Fn.func.inj hfn3; unfold Enters at hE3; rw [Array.append_singleton] at hC3)
        | ((with_reducible refine hC3.mono ?_); rintro e w3 ⟨g3, c4, fi4, ca4, p4, rfl, hs4, hC4⟩; have hm4 := hs4.mor hs3.inv; have e1 := hm4.put (hm3.o _ HO.out.1.1) d1; have e2 := hm4.put (hm3.o _ HO.out.1.2.2.1) d2; have e3 := hm4.put (hm3.o _ HO.out.1.2.1) d3; have e4 := hm4.put (hm3.o _ HO.out.1.2.2.2.1) d4; have e5 := hm4.put (hm3.o _ HO.out.1.2.2.2.2.1) d5; have e6 := hm4.put (hm3.o _ HO.out.1.2.2.2.2.2) d6; have HT : Hid (Ste g w1 g3 w3) := (HO.out.2.2.1.trans hs3).trans hs4; have HR3 := HR.out.2.2.of_eq (HT.out.keep.block _ HR.out.2.2.lt HR.out.1); obtain ⟨q0, q1, q2, q3⟩ := HR3.two))
    obtain ⟨u1, u2, _⟩ := nx_set HS.out HT.out hC4 (Nat.le_refl _) HR.out.2.2.lt HR.out.1 HR.out.2.1
    obtain ⟨s0, s1, _, _⟩ := (HR3.set2 (.func (.func c4) fi4 ca4) (.pointer p4)).two
    have HF : Hid (NxP g w v (.func (.func c) fi ca) B TT (.returned (.agg #[.func (.func c4) fi4 ca4, .pointer p4])) ((w3.setCell ⟨w.heap.size, 0, none⟩ (.func (.func c4) fi4 ca4)).setCell ⟨w.heap.size, 1, none⟩ (.pointer p4))) := ⟨g3, c4, fi4, ca4, p4, rfl, u1, u2⟩
    go_wp2_with fail
    refine bodyPost_ret (v := .agg #[.func (.func c4) fi4 ca4, .pointer p4]) (by simp [results, Tryz.results83, go_sem, s0, s1]) rfl HF.out
end Go.Proofs.YthfjmcomhccbaaaGreatDoor

namespace Go.Proofs.YthfjmcomhccbaaaGreatDoor
open Go.RowKit Tmx Evx
set_option maxRecDepth 60000

theorem ArIs.plain {g : Gh} {w : World} {x u : Value} {t : Th} (h : ArIs g w x u (.plain t)) : (∃ b, x = .pointer (some ⟨b, 0, none⟩) ∧ g.l b = some t) ∧ u = .nilFunc := by
  obtain ⟨⟨b, e, hb⟩, hu⟩ := h
  exact ⟨⟨b, e, hb⟩, hu⟩
theorem ArIs.under {g : Gh} {w : World} {x u : Value} {a : Ar} (h : ArIs g w x u a) (ha : a.isUnder = true) : x = .pointer none ∧ ∃ f y z, u = .func f y z := by
  unfold ArIs at h
  split at h
  · rename_i m k n f t
    cases ha
  · obtain ⟨e, bi, bm, bt, rfl, _⟩ := h
    exact ⟨e, _, _, _, rfl⟩
  · obtain ⟨e, bm, bl, bt, pm, lb, p, rfl, _⟩ := h
    exact ⟨e, _, _, _, rfl⟩
  · exact h.elim
theorem shaped_some {l : List Ar} (h : shaped l = true) : ∃ a t b s, l = [a, .plain t, b, .plain s] ∧ a.isUnder = true ∧ b.isUnder = true := by
  unfold shaped at h
  split at h
  · rename_i a t b s
    simp only [Bool.and_eq_true] at h
    exact ⟨a, t, b, s, rfl, h.1, h.2⟩
  · cases h

theorem keepA {W : World} {a : Addr} {v : Value} (o : Obj) (h : W.cell? a = some v) : (W.alloc o).cell? a = some v :=
  (World.cell?_alloc_some W a o (by rw [h]; rfl)).trans h

set_option maxHeartbeats 2000000 in
theorem came_any (qr bn : Nat) (vr : V) (n : Th) (g : Gh) (w : World) (hi : Inv g w) (hv : g.v qr = some vr) (hs : shaped vr.args = true) (hn : g.l bn = some n) :
    Calls Tryz.prog 86 #[ptr qr, ptr bn] w (LatP g w (.came (lessOf vr n))) := by
  obtain ⟨a0, t1, a2, t3, he, hu0, hu2⟩ := shaped_some hs
  obtain ⟨p, cap, c0, c1, c2, ha⟩ := (hi.v qr vr hv).cells
  rw [he] at c2 ha
  obtain ⟨b, x0, u0, rfl, ho, d0, d1, hA0⟩ := ha.at (i := 0) rfl
  obtain ⟨b', x1, u1, e1, _, d2, d3, hA1⟩ := ha.at (i := 1) rfl
  obtain ⟨b'', x2, u2, e2, _, d4, d5, hA2⟩ := ha.at (i := 2) rfl
  simp only [Option.some.injEq, Addr.mk.injEq] at e1 e2
  obtain ⟨rfl, _⟩ := e1
  obtain ⟨rfl, _⟩ := e2
  obtain ⟨rfl, f0, y0, z0, rfl⟩ := hA0.under hu0
  obtain ⟨⟨b1, rfl, hb1⟩, rfl⟩ := hA1.plain
  obtain ⟨rfl, f2, y2, z2, rfl⟩ := hA2.under hu2
  simp only [Nat.mul_zero, Nat.zero_add, Nat.mul_one] at d0 d1 d2 d3 d4 d5
  rw [show 2 * 2 = 4 from rfl] at d4
  rw [show 2 * 2 + 1 = 5 from rfl] at d5
  rw [show 2 + 1 = 3 from rfl] at d3
  have key : ∀ (X : World) (sr sv sl : Nat), Below w.heap.size w X → w.heap.size ≤ sr → w.heap.size ≤ sv → w.heap.size ≤ sl → sr ≠ sv → sl ≠ sv →
      Blk X sr #[.pointer none, .func f0 y0 z0, .pointer (some ⟨b1, 0, none⟩), .nilFunc, .pointer none, .func f2 y2 z2, .pointer (some ⟨bn, 0, none⟩), .nilFunc] 91 →
      Blk X sv #[.int .i64 17, .int .i64 0, .slice (some ⟨sr, 0, none⟩) 4 4] 88 → Blk X sl #[.pointer (some ⟨sv, 0, none⟩)] 62 →
      LatP g w (.came (lessOf vr n)) (.returned (.pointer (some ⟨X.heap.size, 0, none⟩))) (X.alloc (.cells #[.func (.func 111) #[] #[.pointer (some ⟨sl, 0, none⟩)], .pointer none] 85)) := by
    intro X sr sv sl hb h1 h2 h3 hne1 hne2 B1 B2 B3
    obtain ⟨k1, m1⟩ := (Ste.refl hi).grow hb (fun b => b = sr ∨ b = sl) (fun b h => by rcases h with rfl | rfl; exact ⟨h1, B1.lt⟩; exact ⟨h3, B3.lt⟩)
    have hl : lessOf vr n = .mk 17 0 [a0, .plain t1, a2, .plain n] := by unfold lessOf; rw [he]; rfl
    have m2 : Mor (g.addO (fun b => b = sr ∨ b = sl)) X ((g.addO (fun b => b = sr ∨ b = sl)).addV sv (lessOf vr n)) X := .addV (hi.v_new h2)
    have m12 := m1.trans m2
    have k2 := k1.addV (b := sv) (v := lessOf vr n) h2 (hi.v_new h2) (hi.l_new h2) (by
      generalize hg2 : (g.addO (fun b => b = sr ∨ b = sl)).addV sv (lessOf vr n) = g2 at m12 ⊢
      have ho2 : g2.o sr ∧ g2.o sv := by subst hg2; exact ⟨.inl (.inr (.inl rfl)), .inr rfl⟩
      rw [hl]
      refine ⟨some ⟨sr, 0, none⟩, 4, ⟨ho2.2, B2⟩, fun _ => ⟨sr, _, rfl, ⟨ho2.1, B1⟩, ?_⟩⟩
      intro i a hia
      match i, hia with
      | 0, hia => obtain rfl := Option.some.inj hia; exact ⟨_, _, rfl, rfl, hA0.along m12⟩
      | 1, hia => obtain rfl := Option.some.inj hia; exact ⟨_, _, rfl, rfl, hA1.along m12⟩
      | 2, hia => obtain rfl := Option.some.inj hia; exact ⟨_, _, rfl, rfl, hA2.along m12⟩
      | 3, hia => obtain rfl := Option.some.inj hia; exact ⟨_, _, rfl, rfl, ⟨bn, rfl, m12.l _ _ hn⟩, rfl⟩
      | i + 4, hia => simp [Nd.args] at hia)
    have hL : Below X.heap.size X (X.alloc (.cells #[.func (.func 111) #[] #[.pointer (some ⟨sl, 0, none⟩)], .pointer none] 85)) := (Below.refl _ _).alloc (Nat.le_refl _) _
    have k3 := k2.growL hL (b := X.heap.size) (t := .came (lessOf vr n)) (Nat.le_refl _) (.inr ⟨_, Blk.new _ _ _, ⟨_, _, _, rfl⟩, sl, sv, rfl, BlkO.along (Mor.growL k2.inv hL _ (Nat.le_refl _)) ⟨.inl (.inr (.inr rfl)), B3⟩, Gh.addV_at _ _ _⟩)
    exact ⟨_, _, rfl, k3, Gh.addL_at _ _ _⟩
  have KEY := (show Hid _ from key)
  clear key hi hv hs hn hA0 hA1 hA2 ha he
  unfold ptr
  go_enter Tryz.func86, Tryz.ntmps86
  go_wp2_with fail
  have n1 := World.new_ne w _ c2
  have n2 := World.new_ne w _ d0
  go_region_held3 (fun w' => w'.cell? ⟨qr, 2, none⟩ = some (.slice (some ⟨b, 0, none⟩) 4 cap) ∧ w'.cell? ⟨b, 0, none⟩ = some (.pointer none) ∧ w'.cell? ⟨b, 1, none⟩ = some (.func f0 y0 z0) ∧ w'.cell? ⟨b, 2, none⟩ = some (.pointer (some ⟨b1, 0, none⟩)) ∧ w'.cell? ⟨b, 3, none⟩ = some .nilFunc ∧ w'.cell? ⟨b, 4, none⟩ = some (.pointer none) ∧ w'.cell? ⟨b, 5, none⟩ = some (.func f2 y2 z2)) (refine ⟨?_, ?_, ?_, ?_, ?_, ?_, ?_⟩ <;> first | assumption | (apply keepA; assumption) | (apply keepA; apply keepA; assumption) | (apply keepA; apply keepA; apply keepA; assumption)) (first | (fail))
  · obtain ⟨W, hW, hb, B1, B2, B3, hz⟩ := lay3 w #[.pointer none, .func f0 y0 z0, .pointer (some ⟨b1, 0, none⟩), .nilFunc, .pointer none, .func f2 y2 z2, .pointer (some ⟨bn, 0, none⟩), .nilFunc] #[.int .i64 17, .int .i64 0, .slice (some ⟨w.heap.size, 0, none⟩) 4 4] #[.pointer (some ⟨w.heap.size + 1, 0, none⟩)] 91 88 62
    have HF := KEY.out W.drew w.heap.size (w.heap.size + 1) (w.heap.size + 1 + 1) hb.drew (by omega) (by omega) (by omega) (by omega) (by omega) B1 B2 B3
    rw [hW]
    obtain ⟨X, hX⟩ : ∃ X, W.drew = X := ⟨_, rfl⟩
    rw [hX] at HF ⊢
    have HF2 := (show Hid _ from HF)
    clear hX hW HF
    go_wp2_with fail
    refine bodyPost_ret (v := .pointer (some ⟨X.heap.size, 0, none⟩)) (by simp [results, Tryz.results86, go_sem]) rfl HF2.out
  · obtain ⟨W, hW, hb, B1, B2, B3, hz⟩ := lay3 w #[.pointer none, .func f0 y0 z0, .pointer (some ⟨b1, 0, none⟩), .nilFunc, .pointer none, .func f2 y2 z2, .pointer (some ⟨bn, 0, none⟩), .nilFunc] #[.pointer (some ⟨w.heap.size + 1 + 1, 0, none⟩)] #[.int .i64 17, .int .i64 0, .slice (some ⟨w.heap.size, 0, none⟩) 4 4] 91 62 88
    have HF := KEY.out W.drew w.heap.size (w.heap.size + 1 + 1) (w.heap.size + 1) hb.drew (by omega) (by omega) (by omega) (by omega) (by omega) B1 B3 B2
    rw [hW]
    obtain ⟨X, hX⟩ : ∃ X, W.drew = X := ⟨_, rfl⟩
    rw [hX] at HF ⊢
    have HF2 := (show Hid _ from HF)
    clear hX hW HF
    go_wp2_with fail
    refine bodyPost_ret (v := .pointer (some ⟨X.heap.size, 0, none⟩)) (by simp [results, Tryz.results86, go_sem]) rfl HF2.out
  · obtain ⟨W, hW, hb, B1, B2, B3, hz⟩ := lay3 w #[.pointer (some ⟨w.heap.size + 1 + 1, 0, none⟩)] #[.pointer none, .func f0 y0 z0, .pointer (some ⟨b1, 0, none⟩), .nilFunc, .pointer none, .func f2 y2 z2, .pointer (some ⟨bn, 0, none⟩), .nilFunc] #[.int .i64 17, .int .i64 0, .slice (some ⟨w.heap.size + 1, 0, none⟩) 4 4] 62 91 88
    have HF := KEY.out W.drew (w.heap.size + 1) (w.heap.size + 1 + 1) w.heap.size hb.drew (by omega) (by omega) (by omega) (by omega) (by omega) B2 B3 B1
    rw [hW]
    obtain ⟨X, hX⟩ : ∃ X, W.drew = X := ⟨_, rfl⟩
    rw [hX] at HF ⊢
    have HF2 := (show Hid _ from HF)
    clear hX hW HF
    go_wp2_with fail
    refine bodyPost_ret (v := .pointer (some ⟨X.heap.size, 0, none⟩)) (by simp [results, Tryz.results86, go_sem]) rfl HF2.out
end Go.Proofs.YthfjmcomhccbaaaGreatDoor
