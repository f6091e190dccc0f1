/-
  GetDecl: the declaration that bytes are.
-/
import Derived.Test.YtcgpjihfligdbaaB6
import Derived.Test.YtcgpjihfligdbaaB7
namespace Go.Proofs.Ytcgpjihfligdbaa
open Go.RowKit Tmx
set_option maxRecDepth 60000

theorem el39 : Try.prog.underlying 39 = some (.slice (Try.prog.elem 39)) := by kernel_rfl
theorem sz39 (W : World) : (sizeOf (Try.prog.elem 39)).run Try.prog W = .ok 1 W := by kernel_rfl
theorem add_none (b o i : Nat) : (⟨b, o, none⟩ : Addr).add i = ⟨b, o + i, none⟩ := by unfold Addr.add; split <;> simp_all

/-- What is behind the first bytes. -/
theorem slice_from {w0 : World} {b o cap : Nat} {l : List UInt8} (hl : Bat w0 b o l) (m : Nat) (x : Int) (hx : x = (m : Int)) (hm : m ≤ l.length) (hcap : l.length ≤ cap) :
    ∃ b' o' : Nat, Bs w0 (some ⟨b', o', none⟩) (l.drop m) ∧ ∀ W : World, (Instr.sliceAt 39 (.slice (some ⟨b, o, none⟩) l.length cap) (some (.int .i64 x)) none none).run Try.prog W = .ok (.slice (some ⟨b', o', none⟩) (l.drop m).length (cap - m)) W := by
  subst hx
  by_cases h : cap = m
  · have hr0 : l.drop m = [] := List.drop_eq_nil_of_le (by omega)
    refine ⟨b, o, by rw [hr0]; exact Bs.nil _ _, fun W => ?_⟩
    rw [run_sliceAt_slice _ _ _ _ _ _ el39, run_slice_l _ _ _ _ _ el39 .i64 m (by omega) (by omega), sz39]
    simp [sliced, h, Result.andThen]
  · refine ⟨b, o + m, Bs.some (hl.drop m), fun W => ?_⟩
    rw [run_sliceAt_slice _ _ _ _ _ _ el39, run_slice_l _ _ _ _ _ el39 .i64 m (by omega) (by omega), sz39]
    simp [sliced, h, Result.andThen, add_none]
/-- The bytes behind the first one, so many, and the string that they are. -/
theorem slice_name {w0 : World} {b o cap : Nat} {l : List UInt8} (hl : Bat w0 b (o + 1) l) (m : Nat) (x : Int) (hx : x = (m : Int) + 1) (hm : m ≤ l.length) (hcap : l.length + 1 ≤ cap) :
    ∃ b' o' : Nat, (∀ W : World, (Instr.sliceAt 39 (.slice (some ⟨b, o, none⟩) (l.length + 1) cap) (some (.int .i64 1)) (some (.int .i64 x)) none).run Try.prog W = .ok (.slice (some ⟨b', o', none⟩) m (cap - 1)) W) ∧
      ∀ W : World, Below w0.heap.size w0 W → (convert 39 9 (.slice (some ⟨b', o', none⟩) m (cap - 1))).run Try.prog W = .ok (.string ⟨(l.take m).toArray⟩) W := by
  subst hx
  have hlen : (l.take m).length = m := by rw [List.length_take]; omega
  have hconv : ∀ (b' o' : Nat), Bs w0 (some ⟨b', o', none⟩) (l.take m) → ∀ W : World, Below w0.heap.size w0 W → (convert 39 9 (.slice (some ⟨b', o', none⟩) m (cap - 1))).run Try.prog W = .ok (.string ⟨(l.take m).toArray⟩) W := by
    intro b' o' hs W hW
    have := run_convert_bytes_back (P := Try.prog) W 39 9 5 ⟨b', o', none⟩ (cap - 1) (l.take m) u39 u5 u9 fun j hj => by
      obtain ⟨b2, o2, h1, h2⟩ := hs.below hW
      obtain ⟨rfl, rfl⟩ : b' = b2 ∧ o' = o2 := by simpa using h1 (by omega)
      rw [add_none]
      exact h2 j hj
    rw [hlen] at this
    exact this
  have ht : ((m : Int) + 1).toNat = m + 1 := by omega
  by_cases h : cap = 1
  · have h0 : m = 0 := by omega
    subst h0
    refine ⟨b, o, fun W => ?_, hconv b o (by simpa using Bs.nil _ _)⟩
    rw [run_sliceAt_slice _ _ _ _ _ _ el39, run_slice_lh _ _ _ _ _ el39 .i64 .i64 1 _ (by omega) (by omega) (by omega), sz39]
    simp [sliced, h, Result.andThen]
  · refine ⟨b, o + 1, fun W => ?_, hconv b (o + 1) (Bs.some (hl.take m))⟩
    rw [run_sliceAt_slice _ _ _ _ _ _ el39, run_slice_lh _ _ _ _ _ el39 .i64 .i64 1 _ (by omega) (by omega) (by omega), sz39, ht]
    simp [sliced, h, Result.andThen, add_none]

/-- The declaration, of what its body's bytes come to. -/
def gD2 (nm : List UInt8) (x : Int × Int × F) : GotT → GotD
  | .error e => .error e
  | .ok y => if 0 < y.2.length then .error 2 else .ok (nm, x, y.1)
/-- The declaration, of what its type's bytes come to. -/
def gD1 (nm : List UInt8) : GotT → GotD
  | .error e => .error e
  | .ok x => gD2 nm x.1 (getT 24 x.2)
theorem getD_cons (c : UInt8) (r : List UInt8) (h : ¬ r.length < c.toNat) : getD (c :: r) = gD1 (r.take c.toNat) (getT 24 (r.drop c.toNat)) := by
  rw [getD, if_neg h]
  cases getT 24 (r.drop c.toNat) with
  | error e => rfl
  | ok x =>
    simp only [gD1]
    cases getT 24 x.2 <;> rfl

/-- What GetDecl answers. -/
def PostD (w : World) (R : GotD) (e : Ending) (w' : World) : Prop := Below w.heap.size w w' ∧ match R with
  | .error x => e = .returned (.tuple #[.agg #[.string ⟨#[]⟩, .int .i64 0, .int .i64 0, .slice none 0 0, .int .i64 0, .int .i64 0, .slice none 0 0], .int .i64 x]) ∧ x ≠ 0
  | .ok y => ∃ q c q' c', e = .returned (.tuple #[.agg #[.string ⟨y.1.toArray⟩, .int .i64 y.2.1.1, .int .i64 y.2.1.2.1, .slice q (len y.2.1.2.2) c, .int .i64 y.2.2.1, .int .i64 y.2.2.2.1, .slice q' (len y.2.2.2.2) c'], .int .i64 0]) ∧ SlF w.heap.size w' q y.2.1.2.2 ∧ SlF w.heap.size w' q' y.2.2.2.2

set_option maxHeartbeats 1000000 in
theorem getDecl_any (l : List UInt8) (p : Option Addr) (cap : Nat) (w : World) (hs : Bs w p l) (hcap : l.length ≤ cap) (hl : l.length ≤ 140737488355328) :
    Calls Try.prog 24 #[.slice p l.length cap] w (PostD w (getD l)) := by
  have hb1 : Below w.heap.size w (w.alloc (.cells #[.string ⟨#[]⟩, .int .i64 0, .int .i64 0, .slice none 0 0, .int .i64 0, .int .i64 0, .slice none 0 0] 38)) := (Below.refl _ _).alloc (Nat.le_refl _) _
  have bx1 := Box7.new w (.string ⟨#[]⟩) (.int .i64 0) (.int .i64 0) (.slice none 0 0) (.int .i64 0) (.int .i64 0) (.slice none 0 0)
  cases l with
  | nil =>
    rw [show getD [] = .error 8 from rfl]
    go_enter Try.func24, Try.ntmps24
    go_wp2_with fail
    refine bodyPost_ret (v := .tuple #[.agg #[.string ⟨#[]⟩, .int .i64 0, .int .i64 0, .slice none 0 0, .int .i64 0, .int .i64 0, .slice none 0 0], .int .i64 8]) (by simp [results, Try.results24, go_sem]) rfl ⟨?_, rfl, by decide⟩
    exact hb1
  | cons c r =>
    obtain ⟨b, o, rfl, hbl, hc0, hr0⟩ := hs.cons
    have hcb := c.toNat_lt
    rw [List.length_cons] at hcap hl ⊢
    by_cases hlt : r.length < c.toNat
    · rw [show getD (c :: r) = .error 8 by rw [getD, if_pos hlt]]
      have hlt2 : (r.length : Int) + 1 < 1 + (c.toNat : Int) := by omega
      go_enter Try.func24, Try.ntmps24
      go_wp2_with fail
      refine bodyPost_ret (v := .tuple #[.agg #[.string ⟨#[]⟩, .int .i64 0, .int .i64 0, .slice none 0 0, .int .i64 0, .int .i64 0, .slice none 0 0], .int .i64 8]) (by simp [results, Try.results24, go_sem]) rfl ⟨?_, rfl, by decide⟩
      exact hb1
    · have hlt2 : ¬ ((r.length : Int) + 1 < 1 + (c.toNat : Int)) := by omega
      have hB0 : Bat w b o (c :: r) := by
        obtain ⟨b', o', h1, h2⟩ := hs
        obtain ⟨rfl, rfl⟩ : b = b' ∧ o = o' := by simpa using h1 (by simp)
        exact h2
      obtain ⟨bn, on, hsn, hcn⟩ := slice_name (cap := cap) hr0 c.toNat (1 + (c.toNat : Int)) (by omega) (by omega) (by omega)
      obtain ⟨bt, ot, hst, hslt⟩ := slice_from (cap := cap) (l := c :: r) (b := b) (o := o) hB0 (c.toNat + 1) (1 + (c.toNat : Int)) (by omega) (by simp; omega) (by simp; omega)
      rw [List.drop_succ_cons] at hst hslt
      rw [List.length_cons] at hslt
      rw [getD_cons c r hlt]
      obtain ⟨nm, hnm⟩ : ∃ nm, r.take c.toNat = nm := ⟨_, rfl⟩
      obtain ⟨rt, hrt⟩ : ∃ rt, r.drop c.toNat = rt := ⟨_, rfl⟩
      have hrl : rt.length ≤ r.length ∧ rt.length ≤ cap - (c.toNat + 1) := by rw [← hrt, List.length_drop]; omega
      rw [hrt] at hst hslt ⊢
      rw [hnm] at hcn ⊢
      clear hnm hrt
      have hcn1 := hcn _ hb1
      have hcn2 := hcn _ hb1.drew
      clear hcn
      have TK : Hid (∀ (l' : List UInt8) (p' : Option Addr) (cap' : Nat) (W : World), Bs w p' l' → Below w.heap.size w W → l'.length ≤ cap' → (p' = none → cap' = 0) → Calls Try.prog 47 #[.slice p' l'.length cap', .int .i64 0] W (PostT w W (getT 24 l'))) := fun l' p' cap' W h1 h2 h3 h4 => take_all 24 (Nat.le_refl _) l' p' cap' w W h1 h2 h3 h4
      obtain ⟨X1, hX1⟩ : ∃ X1, getT 24 rt = X1 := ⟨_, rfl⟩
      have HC1 : Hid (∀ W : World, Below w.heap.size w W → Calls Try.prog 47 #[.slice (some ⟨bt, ot, none⟩) rt.length (cap - (c.toNat + 1)), .int .i64 0] W (PostT w W X1)) := fun W h => by
        rw [← hX1]
        exact TK.out rt _ _ W hst h hrl.2 (fun h => by simp at h)
      rw [hX1]
      clear hX1
      go_enter Try.func24, Try.ntmps24
      go_wp2_with fail
      go_region
      clear hcn1 hcn2 hsn hslt
      go_wp2_with fail
      have hbd : Below w.heap.size w (w.alloc (.cells #[.string ⟨#[]⟩, .int .i64 0, .int .i64 0, .slice none 0 0, .int .i64 0, .int .i64 0, .slice none 0 0] 38)).drew := hb1.drew
      have bxd : Box7 (w.alloc (.cells #[.string ⟨#[]⟩, .int .i64 0, .int .i64 0, .slice none 0 0, .int .i64 0, .int .i64 0, .slice none 0 0] 38)).drew w.heap.size (.string ⟨#[]⟩) (.int .i64 0) (.int .i64 0) (.slice none 0 0) (.int .i64 0) (.int .i64 0) (.slice none 0 0) := bx1
      have hzd : (w.alloc (.cells #[.string ⟨#[]⟩, .int .i64 0, .int .i64 0, .slice none 0 0, .int .i64 0, .int .i64 0, .slice none 0 0] 38)).drew.heap.size = w.heap.size + 1 := by simp
      refine (HC1.out _ hbd).mono ?_
      clear HC1
      rintro e w2 ⟨hb2, hr⟩
      have bx2 := bxd.below hb2 (by omega)
      have hbw2 : Below w.heap.size w w2 := hbd.trans (hb2.mono (by omega))
      have lx := bx2.lt
      obtain ⟨c0, c1, c2, c3, c4, c5, c6⟩ := bx2.facts
      obtain ⟨f0, f1, f2, f3, f4, f5, f6⟩ := bx2.frozen
      rcases X1 with x | ⟨⟨xk, xn, xf⟩, xr⟩
      · obtain ⟨rfl, hx⟩ := hr
        have tx : (x != 0) = true := by simpa using hx
        go_wp2_with fail
        obtain ⟨e0, e1, e2, e3, e4, e5, e6⟩ := ((bx2.set (.string ⟨#[]⟩) (.int .i64 0) (.int .i64 0) (.slice none 0 0) (.int .i64 0) (.int .i64 0) (.slice none 0 0)).alloc (.cells #[.int .i64 0, .int .i64 0, .slice none 0 0] 24)).facts
        refine bodyPost_ret (v := .tuple #[.agg #[.string ⟨#[]⟩, .int .i64 0, .int .i64 0, .slice none 0 0, .int .i64 0, .int .i64 0, .slice none 0 0], .int .i64 x]) (by simp [results, Try.results24, go_sem, e0, e1, e2, e3, e4, e5, e6]) rfl ⟨(below_set7 hbw2 (Nat.le_refl _) _ _ _ _ _ _ _).alloc (by simp [World.setCell]; omega) _, rfl, hx⟩
      · obtain ⟨q, cc, p2, cap2, rfl, hsl, hs2, hcap2, hp2⟩ := hr
        simp only at hs2 hcap2 hsl
        obtain ⟨X2, hX2⟩ : ∃ X2, getT 24 xr = X2 := ⟨_, rfl⟩
        have HC2 : Hid (∀ W : World, Below w.heap.size w W → Calls Try.prog 47 #[.slice p2 xr.length cap2, .int .i64 0] W (PostT w W X2)) := fun W h => by
          rw [← hX2]
          exact TK.out xr _ _ W hs2 h hcap2 hp2
        have HX2 : Hid (getT 24 xr = X2) := hX2
        clear hX2 hp2
        go_wp2_with fail
        have hb3 : Below w.heap.size w (w2.alloc (.cells #[.int .i64 xk, .int .i64 xn, .slice q (len xf) cc] 24)) := hbw2.alloc hbw2.size _
        have bo3 := Box.new w2 (.int .i64 xk) (.int .i64 xn) (.slice q (len xf) cc)
        have bx3 := bx2.alloc (.cells #[.int .i64 xk, .int .i64 xn, .slice q (len xf) cc] 24)
        have hz3 : (w2.alloc (.cells #[.int .i64 xk, .int .i64 xn, .slice q (len xf) cc] 24)).heap.size = w2.heap.size + 1 := by simp
        have hsl3 := hsl.below ((Below.refl _ w2).alloc (Nat.le_refl _) (.cells #[.int .i64 xk, .int .i64 xn, .slice q (len xf) cc] 24))
        refine (HC2.out _ hb3).mono ?_
        clear HC2
        rintro e w4 ⟨hb4, hr⟩
        have bx4 := bx3.below hb4 (by omega)
        have bo4 := bo3.below hb4
        have hsl4 := hsl3.below hb4
        have hbw4 : Below w.heap.size w w4 := hb3.trans (hb4.mono (by omega))
        have lx4 := bx4.lt
        have lo4 := bo4.lt
        obtain ⟨k0, k1, k2, k3, k4, k5, k6⟩ := bx4.facts
        obtain ⟨m0, m1, m2, m3, m4, m5, m6⟩ := bx4.frozen
        obtain ⟨o0, o1', o2, _, _, _⟩ := bo4.facts
        clear hsl3 bx3 bo3 hb3 hsl
        rcases X2 with x | ⟨⟨yk, yn, yf⟩, yr⟩
        · obtain ⟨rfl, hx⟩ := hr
          have tx : (x != 0) = true := by simpa using hx
          go_wp2_with fail
          rw [show gD1 nm (.ok ((xk, xn, xf), xr)) = .error x by show gD2 nm (xk, xn, xf) (getT 24 xr) = _; rw [HX2.out]; rfl]
          obtain ⟨e0, e1, e2, e3, e4, e5, e6⟩ := ((bx4.set (.string ⟨#[]⟩) (.int .i64 0) (.int .i64 0) (.slice none 0 0) (.int .i64 0) (.int .i64 0) (.slice none 0 0)).alloc (.cells #[.int .i64 0, .int .i64 0, .slice none 0 0] 24)).facts
          refine bodyPost_ret (v := .tuple #[.agg #[.string ⟨#[]⟩, .int .i64 0, .int .i64 0, .slice none 0 0, .int .i64 0, .int .i64 0, .slice none 0 0], .int .i64 x]) (by simp [results, Try.results24, go_sem, e0, e1, e2, e3, e4, e5, e6]) rfl ⟨(below_set7 hbw4 (Nat.le_refl _) _ _ _ _ _ _ _).alloc (by simp [World.setCell]; omega) _, rfl, hx⟩
        · obtain ⟨q', cc', p5, cap5, rfl, hsl', hs5, hcap5, hp5⟩ := hr
          simp only at hs5 hcap5 hsl'
          clear hp5
          by_cases hy : 0 < yr.length
          · go_wp2_with fail
            rw [show gD1 nm (.ok ((xk, xn, xf), xr)) = .error 2 by show gD2 nm (xk, xn, xf) (getT 24 xr) = _; rw [HX2.out]; exact if_pos hy]
            obtain ⟨e0, e1, e2, e3, e4, e5, e6⟩ := ((bx4.set (.string ⟨#[]⟩) (.int .i64 0) (.int .i64 0) (.slice none 0 0) (.int .i64 0) (.int .i64 0) (.slice none 0 0)).alloc (.cells #[.int .i64 yk, .int .i64 yn, .slice q' (len yf) cc'] 24)).facts
            refine bodyPost_ret (v := .tuple #[.agg #[.string ⟨#[]⟩, .int .i64 0, .int .i64 0, .slice none 0 0, .int .i64 0, .int .i64 0, .slice none 0 0], .int .i64 2]) (by simp [results, Try.results24, go_sem, e0, e1, e2, e3, e4, e5, e6]) rfl ⟨(below_set7 hbw4 (Nat.le_refl _) _ _ _ _ _ _ _).alloc (by simp [World.setCell]; omega) _, rfl, by decide⟩
          · have hy0 : yr.length = 0 := by omega
            go_wp2_with fail
            rw [show gD1 nm (.ok ((xk, xn, xf), xr)) = .ok (nm, (xk, xn, xf), (yk, yn, yf)) by show gD2 nm (xk, xn, xf) (getT 24 xr) = _; rw [HX2.out]; exact if_neg hy]
            obtain ⟨e0, e1, e2, e3, e4, e5, e6⟩ := ((bx4.set (.string ⟨nm.toArray⟩) (.int .i64 xk) (.int .i64 xn) (.slice q (len xf) cc) (.int .i64 yk) (.int .i64 yn) (.slice q' (len yf) cc')).alloc (.cells #[.int .i64 yk, .int .i64 yn, .slice q' (len yf) cc'] 24)).facts
            refine bodyPost_ret (v := .tuple #[.agg #[.string ⟨nm.toArray⟩, .int .i64 xk, .int .i64 xn, .slice q (len xf) cc, .int .i64 yk, .int .i64 yn, .slice q' (len yf) cc'], .int .i64 0]) (by simp [results, Try.results24, go_sem, e0, e1, e2, e3, e4, e5, e6]) rfl ⟨(below_set7 hbw4 (Nat.le_refl _) _ _ _ _ _ _ _).alloc (by simp [World.setCell]; omega) _, q, cc, q', cc', rfl, ?_, ?_⟩
            · exact (((hsl4.set7 (B := w.heap.size) (by omega) _ _ _ _ _ _ _).below ((Below.refl _ _).alloc (Nat.le_refl _) _))).mono (by omega)
            · exact (((hsl'.set7 (B := w.heap.size) (by omega) _ _ _ _ _ _ _).below ((Below.refl _ _).alloc (Nat.le_refl _) _))).mono (by omega)
end Go.Proofs.Ytcgpjihfligdbaa
