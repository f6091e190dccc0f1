/-
  The law: there, and back.
-/
import Derived.Test.YtcgpjihfligdbaaB10
import Derived.Test.YtcgpjihfligdbaaW6
import Derived.Deep.Cut
import Derived.Deep.RegionLaw
namespace Tmx
/-- Right terms are small. -/
theorem right_small {k n : Int} {f : F} (h : wrongT 200 200 k n f = 0) : size f ≤ 59 := (wrong_zero h).2
theorem getD_name {l nm : List UInt8} {x y : Int × Int × F} (h : getD l = .ok (nm, x, y)) : nm.length ≤ 255 := by
  cases l with
  | nil => simp [getD] at h
  | cons c r =>
    have hc := c.toNat_lt
    rw [getD] at h
    split at h
    · simp at h
    · cases e1 : getT 24 (r.drop c.toNat) with
      | error e' => rw [e1] at h; simp at h
      | ok x1 =>
        rw [e1] at h
        simp only at h
        cases e2 : getT 24 x1.2 with
        | error e' => rw [e2] at h; simp at h
        | ok y1 =>
          rw [e2] at h
          simp only at h
          split at h
          · simp at h
          · simp only [Except.ok.injEq, Prod.mk.injEq] at h
            rw [← h.1, List.length_take]
            omega
end Tmx
namespace Go.Proofs.Ytcgpjihfligdbaa
open Go.RowKit Tmx
set_option maxRecDepth 60000

/-- An operation that is not wanted. -/
theorem step_unwanted {P : Program} {ops : Array Oper} {o : Oper} {a : Act} {K : Act → World → Prop} {Q : Exit → Act → World → Prop} {w : World} {E : Prop} (hw : Region.wanted o (yielded ops a.tmps) = false) (h : E) :
    if Region.wanted o (yielded ops a.tmps) = true then Oper.wp P o a w K Q else E := by
  rw [if_neg (by rw [hw]; exact Bool.false_ne_true)]
  exact h

theorem conv_any (W : World) (l : List UInt8) (p : Option Addr) (c : Nat) (hs : Bs W p l) : (convert 39 9 (.slice p l.length c)).run Try.prog W = .ok (.string ⟨l.toArray⟩) W := by
  cases p with
  | none =>
    obtain rfl : l = [] := by
      obtain ⟨b, o, h1, _⟩ := hs
      cases l with
      | nil => rfl
      | cons x m => exact absurd (h1 (by simp)) (by simp)
    exact run_convert_bytes_nil (P := Try.prog) W 39 5 u39 u5 _ c 9 u9
  | some a =>
    refine run_convert_bytes_back (P := Try.prog) W 39 9 5 a c l u39 u5 u9 fun j hj => ?_
    obtain ⟨b2, o2, h1, h2⟩ := hs
    have ha : a = ⟨b2, o2, none⟩ := by simpa using h1 (by omega)
    rw [ha, add_none]
    exact h2 j hj
theorem same_of_zed (k n : Int) (f : F) : sameT k n f k n (zed f) = true := by simp [sameT, same_zed]
theorem same_zed' : ∀ f : F, same (zed f) f = true
  | .nil => rfl
  | .node _ _ a l r => by simp [zed, same, same_zed' l, same_zed' r]
theorem zed_same (k n : Int) (f : F) : sameT k n (zed f) k n f = true := by simp [sameT, same_zed']
theorem size_zed : ∀ f : F, size (zed f) = size f
  | .nil => rfl
  | .node _ _ a l r => by rw [zed, size, size, size_zed l, size_zed r]

set_option maxRecDepth 60000 in
set_option maxHeartbeats 8000000 in
theorem wireTurns_any (f : F) (k n : Int) (q : Option Addr) (cap : Nat) (nm : List UInt8) (fa : F) (ka na : Int) (qa : Option Addr) (ca : Nat) (fb : F) (kb nb : Int) (qb : Option Addr) (cb : Nat) (l : List UInt8) (p : Option Addr) (cl : Nat) (w : World)
    (hs : Sl w q f) (hsa : Sl w qa fa) (hsb : Sl w qb fb) (hl : Bs w p l) (hcl : l.length ≤ cl) (hp : p = none → cl = 0) (hlen : l.length ≤ 140737488351232) :
    Calls Try.prog 4 #[.agg #[.int .i64 k, .int .i64 n, .slice q (len f) cap], .agg #[.string ⟨nm.toArray⟩, .int .i64 ka, .int .i64 na, .slice qa (len fa) ca, .int .i64 kb, .int .i64 nb, .slice qb (len fb) cb], .slice p l.length cl] w
      fun e w' => e = .returned (.bool true) ∧ Below w.heap.size w w' := by
  have HP : Hid (p = none → cl = 0) := hp
  clear hp
  obtain ⟨W1, hW1⟩ : ∃ W1, w.alloc (.cells #[.int .i64 k, .int .i64 n, .slice q (len f) cap] 24) = W1 := ⟨_, rfl⟩
  obtain ⟨W, hW⟩ : ∃ W, W1.alloc (.cells #[.string ⟨nm.toArray⟩, .int .i64 ka, .int .i64 na, .slice qa (len fa) ca, .int .i64 kb, .int .i64 nb, .slice qb (len fb) cb] 38) = W := ⟨_, rfl⟩
  have hz1 : W1.heap.size = w.heap.size + 1 := by rw [← hW1]; simp
  have hz : W.heap.size = w.heap.size + 2 := by rw [← hW]; simp; omega
  have bt : Box W w.heap.size (.int .i64 k) (.int .i64 n) (.slice q (len f) cap) := by rw [← hW, ← hW1]; exact (Box.new _ _ _ _).alloc _
  have bd : Box7 W (w.heap.size + 1) (.string ⟨nm.toArray⟩) (.int .i64 ka) (.int .i64 na) (.slice qa (len fa) ca) (.int .i64 kb) (.int .i64 nb) (.slice qb (len fb) cb) := by rw [← hW, ← hz1]; exact Box7.new _ _ _ _ _ _ _ _
  have hbW : Below w.heap.size w W := by rw [← hW, ← hW1]; exact ((Below.refl _ _).alloc (Nat.le_refl _) _).alloc (by simp) _
  go_enter Try.func4, Try.ntmps4
  go_wp2_with fail
  clear hW hW1
  refine (alive_any W).mono ?_
  rintro e w1 ⟨rfl, hb1⟩
  have bt1 := bt.below hb1
  have bd1 := bd.below hb1 (by omega)
  have hbw1 : Below w.heap.size w w1 := hbW.trans (hb1.mono (by omega))
  obtain ⟨t0, t1, t2, _, _, _⟩ := bt1.facts
  go_upto_if 18 with (first | (go_at_call 12; refine (rwrong_any f k n q cap 200 200 w1 (by omega) (by omega) (hs.below hbw1)).mono ?_; rintro e w2 ⟨rfl, hb2⟩))
  have bt2 := bt1.below hb2
  have bd2 := bd1.below hb2 bd1.lt
  have hbw2 : Below w.heap.size w w2 := hbw1.trans (hb2.mono hbw1.size)
  go_cut [] from 7 (fun wc => Box wc w.heap.size (.int .i64 k) (.int .i64 n) (.slice q (len f) cap) ∧ Box7 wc (w.heap.size + 1) (.string ⟨nm.toArray⟩) (.int .i64 ka) (.int .i64 na) (.slice qa (len fa) ca) (.int .i64 kb) (.int .i64 nb) (.slice qb (len fb) cb) ∧ Below w.heap.size w wc)
  case first =>
    clear t0 t1 t2
    cases tt : (wrongT 200 200 k n f == 0)
    · go_wp2_with fail
      go_meet
      case rel => exact ⟨bt2, bd2, hbw2⟩
    · have w0 : wrongT 200 200 k n f = 0 := by simpa using tt
      have hsm := right_small w0
      have hbl := bytesT_len k n f
      have hgt := getT_there w0 l
      have HT : Hid (Calls Try.prog 23 #[.slice none 0 0, .agg #[.int .i64 k, .int .i64 n, .slice q (len f) cap]] w2 fun e w' => ∃ v', e = .returned v' ∧ BytesIn w2.heap.size w' v' (bytesT k n f) ∧ Below w2.heap.size w2 w') :=
        term_any (size f + 1) f k n q cap w2 w2 w2.heap.size (.slice none 0 0) [] (by omega) (by simp; omega) (hs.below hbw2) (Below.refl _ _) (Nat.le_refl _) (Nat.le_refl _) (BytesIn.nil _ _)
      have HW : Hid (wrongT 200 200 k n f = 0) := w0
      clear w0
      obtain ⟨t0, t1, t2, _, _, _⟩ := bt2.facts
      obtain ⟨bs, hbs⟩ : ∃ bs, bytesT k n f = bs := ⟨_, rfl⟩
      rw [hbs] at HT hbl hgt
      go_wp2_with fail
      refine HT.out.mono ?_
      rintro e w3 ⟨v3, rfl, hB3, hb3⟩
      have hl3 : Bs w3 p l := hl.below (hbw2.trans (hb3.mono hbw2.size))
      obtain ⟨v4, w4, hr4, hB4, _, hb4⟩ := append_bytes w3 w2.heap.size v3 bs hB3 p cl l hl3 HP.out (by omega) hb3.size 39
      obtain ⟨p4, c4, rfl, hc4, hs4, hp4⟩ := hB4.form
      have HR4 : Hid ((Builtin.append_ #[39, 39] 39 #[v3, .slice p l.length cl]).run Try.prog w3 = .ok (.slice p4 (bs ++ l).length c4) w4) := hr4
      have hG := get_any (bs ++ l) p4 c4 w4 hs4 hc4 hp4 (by rw [List.length_append]; omega)
      rw [hgt] at hG
      have HG : Hid (Calls Try.prog 22 #[.slice p4 (bs ++ l).length c4] w4 (PostG w4 (.ok ((k, n, zed f), l)))) := hG
      clear hr4 hG hp4 hgt
      have hb24 : Below w2.heap.size w2 w4 := hb3.trans hb4
      obtain ⟨N4, hN4⟩ : ∃ N4, (bs ++ l).length = N4 := ⟨_, rfl⟩
      rw [hN4] at HR4 HG
      clear hc4 hs4 hB4 hN4 hbs
      go_wp2_with (first | (at_builtin; refine wpList_append_run rfl _ _ 39 39 rfl _ _ _ rfl rfl HR4.out ?_))
      refine HG.out.mono ?_
      rintro e w5 ⟨hb5, q5, c5, p5, cap5, rfl, hsl5, hs5, hcap5, hp5⟩
      simp only at hsl5 hs5 hcap5 ⊢
      clear hp5
      have hb25 : Below w2.heap.size w2 w5 := hb24.trans (hb5.mono hb24.size)
      have bt5 := bt2.below hb25
      have bd5 := bd2.below hb25 bd2.lt
      obtain ⟨w6, hw6⟩ : ∃ w6, w5.alloc (.cells #[.int .i64 k, .int .i64 n, .slice q5 (len (zed f)) c5] 24) = w6 := ⟨_, rfl⟩
      have bu6 : Box w6 w5.heap.size (.int .i64 k) (.int .i64 n) (.slice q5 (len (zed f)) c5) := by rw [← hw6]; exact Box.new _ _ _ _
      have hb56 : Below w5.heap.size w5 w6 := by rw [← hw6]; exact (Below.refl _ _).alloc (Nat.le_refl _) _
      have bt6 := bt5.below hb56
      have bd6 := bd5.below hb56 bd5.lt
      have hbw5 : Below w.heap.size w w5 := hbw2.trans (hb25.mono hbw2.size)
      have hbw6 : Below w.heap.size w w6 := hbw5.trans (hb56.mono hbw5.size)
      have lt6 := bt6.lt
      have lu6 := bu6.lt
      clear t0 t1 t2
      obtain ⟨t0, t1, t2, _, _, _⟩ := bt6.facts
      obtain ⟨u0, u1, u2, _, _, _⟩ := bu6.facts
      go_wp2_with fail
      refine (rsame_any (size f + 1) f (zed f) k n k n q q5 cap c5 w6 (by omega) (by omega) (by rw [size_zed]; omega) (hs.below hbw6) (hsl5.sl.below hb56)).mono ?_
      rintro e w7 ⟨rfl, hb7⟩
      rw [same_of_zed]
      have hbw7 : Below w.heap.size w w7 := hbw6.trans (hb7.mono hbw6.size)
      have cv1 := conv_any w7 l p5 cap5 ((hs5.below hb56).below hb7)
      have cv2 := conv_any w7 l p cl (hl.below hbw7)
      clear t0 t1 t2 u0 u1 u2 hw6
      go_wp2_with fail
      go_meet
      case rel => exact ⟨bt6.below hb7, bd6.below hb7 bd6.lt, hbw7⟩
  case rest =>
    clear t0 t1 t2 bt bd bt1 bd1 bt2 bd2 hb1 hb2 hbw1 hbw2 hbW
    obtain ⟨bt3, bd3, hb3⟩ := hcut
    go_upto_region 7 with fail
    have hsz : (ByteArray.size ⟨nm.toArray⟩) = nm.length := by simp [ByteArray.size]
    obtain ⟨B, hB⟩ : ∃ B : Bool, B = ((decide (nm.length < 256) && wrongT 200 200 ka na fa == 0) && wrongT 200 200 kb nb fb == 0) := ⟨_, rfl⟩
    have HB : Hid (B = ((decide (nm.length < 256) && wrongT 200 200 ka na fa == 0) && wrongT 200 200 kb nb fb == 0)) := hB
    clear hB
    obtain ⟨d0, d1, d2, d3, d4, d5, d6⟩ := bd3.facts
    go_cut [58] from 7 (fun s wc => s = .bool B ∧ Box wc w.heap.size (.int .i64 k) (.int .i64 n) (.slice q (len f) cap) ∧ Box7 wc (w.heap.size + 1) (.string ⟨nm.toArray⟩) (.int .i64 ka) (.int .i64 na) (.slice qa (len fa) ca) (.int .i64 kb) (.int .i64 nb) (.slice qb (len fb) cb) ∧ Below w.heap.size w wc)
    case first =>
      by_cases h1 : nm.length < 256
      · have h1' : (nm.length : Int) < 256 := by omega
        go_wp2_with fail
        refine (rwrong_any fa ka na qa ca 200 200 wc (by omega) (by omega) (hsa.below hb3)).mono ?_
        rintro e w4 ⟨rfl, hb4⟩
        have bd4 := bd3.below hb4 bd3.lt
        have bt4 := bt3.below hb4
        have hbw4 : Below w.heap.size w w4 := hb3.trans (hb4.mono hb3.size)
        clear d0 d1 d2 d3 d4 d5 d6
        obtain ⟨d0, d1, d2, d3, d4, d5, d6⟩ := bd4.facts
        cases t2 : (wrongT 200 200 ka na fa == 0)
        · have HB0 : Hid (B = false) := by show _ = _; rw [HB.out, t2]; simp
          go_wp2_with fail
          go_meet
          case rel => exact ⟨by rw [HB0.out], bt4, bd4, hbw4⟩
        · go_wp2_with fail
          refine (rwrong_any fb kb nb qb cb 200 200 w4 (by omega) (by omega) (hsb.below hbw4)).mono ?_
          rintro e w5 ⟨rfl, hb5⟩
          have HB0 : Hid (B = (wrongT 200 200 kb nb fb == 0)) := by show _ = _; rw [HB.out, t2, decide_eq_true h1]; simp
          go_wp2_with fail
          go_meet
          case rel => exact ⟨by rw [HB0.out], bt4.below hb5, bd4.below hb5 bd4.lt, hbw4.trans (hb5.mono hbw4.size)⟩
      · have h1' : ¬ (nm.length : Int) < 256 := by omega
        have HB0 : Hid (B = false) := by show _ = _; rw [HB.out, decide_eq_false h1]; simp
        go_wp2_with fail
        go_meet
        case rel => exact ⟨by rw [HB0.out], bt3, bd3, hb3⟩
    case rest =>
      clear d0 d1 d2 d3 d4 d5 d6 bt3 bd3 hb3
      obtain ⟨rfl, bt4, bd4, hb4⟩ := hcut
      go_upto_if 58 with fail
      go_cut [] from 7 (fun wc => Box wc w.heap.size (.int .i64 k) (.int .i64 n) (.slice q (len f) cap) ∧ Box7 wc (w.heap.size + 1) (.string ⟨nm.toArray⟩) (.int .i64 ka) (.int .i64 na) (.slice qa (len fa) ca) (.int .i64 kb) (.int .i64 nb) (.slice qb (len fb) cb) ∧ Below w.heap.size w wc)
      case first =>
        cases B with
        | false =>
          go_wp2_with fail
          go_meet
          case rel => exact ⟨bt4, bd4, hb4⟩
        | true =>
          have hB3 := HB.out.symm
          simp only [Bool.and_eq_true, decide_eq_true_eq, beq_iff_eq] at hB3
          obtain ⟨⟨h1, h2⟩, h3⟩ := hB3
          have hsa' := right_small h2
          have hsb' := right_small h3
          have hgd := getD_there (nm := nm) (x := (ka, na, fa)) (y := (kb, nb, fb)) h1 h2 h3
          have HD : Hid (Calls Try.prog 25 #[.agg #[.string ⟨nm.toArray⟩, .int .i64 ka, .int .i64 na, .slice qa (len fa) ca, .int .i64 kb, .int .i64 nb, .slice qb (len fb) cb]] wc fun e w' => ∃ v', e = .returned v' ∧ BytesIn wc.heap.size w' v' (declB nm (ka, na, fa) (kb, nb, fb)) ∧ Below wc.heap.size wc w') :=
            decl_any nm fa ka na qa ca fb kb nb qb cb wc (by omega) (by omega) (by omega) (hsa.below hb4) (hsb.below hb4)
          have HLL : Hid ((declB nm (ka, na, fa) (kb, nb, fb)).length ≤ 140737488355328) := by
            show _ ≤ _
            have e1 := bytesT_len ka na fa
            have e2 := bytesT_len kb nb fb
            unfold declB
            simp only [List.length_append, List.length_cons]
            omega
          clear h1 h2 h3
          obtain ⟨d0, d1, d2, d3, d4, d5, d6⟩ := bd4.facts
          obtain ⟨bs, hbs⟩ : ∃ bs, declB nm (ka, na, fa) (kb, nb, fb) = bs := ⟨_, rfl⟩
          rw [hbs] at HD hgd HLL
          clear hbs
          go_wp2_with fail
          refine HD.out.mono ?_
          rintro e w5 ⟨v5, rfl, hB5, hb5⟩
          obtain ⟨p5, c5, rfl, hc5, hs5, _⟩ := hB5.form
          have hG := getDecl_any bs p5 c5 w5 hs5 hc5 HLL.out
          rw [hgd] at hG
          have HG : Hid (Calls Try.prog 24 #[.slice p5 bs.length c5] w5 (PostD w5 (.ok (nm, (ka, na, zed fa), (kb, nb, zed fb))))) := hG
          clear hG hgd HD
          go_wp2_with fail
          refine HG.out.mono ?_
          rintro e w6 ⟨hb6, q6, c6, q7, c7, rfl, hsl6, hsl7⟩
          simp only at hsl6 hsl7 ⊢
          have hb46 : Below wc.heap.size wc w6 := hb5.trans (hb6.mono hb5.size)
          have bt6 := bt4.below hb46
          have bd6 := bd4.below hb46 bd4.lt
          obtain ⟨w8, hw8⟩ : ∃ w8, w6.alloc (.cells #[.string ⟨nm.toArray⟩, .int .i64 ka, .int .i64 na, .slice q6 (len (zed fa)) c6, .int .i64 kb, .int .i64 nb, .slice q7 (len (zed fb)) c7] 38) = w8 := ⟨_, rfl⟩
          have bx8 : Box7 w8 w6.heap.size (.string ⟨nm.toArray⟩) (.int .i64 ka) (.int .i64 na) (.slice q6 (len (zed fa)) c6) (.int .i64 kb) (.int .i64 nb) (.slice q7 (len (zed fb)) c7) := by rw [← hw8]; exact Box7.new _ _ _ _ _ _ _ _
          have hb68 : Below w6.heap.size w6 w8 := by rw [← hw8]; exact (Below.refl _ _).alloc (Nat.le_refl _) _
          have bt8 := bt6.below hb68
          have bd8 := bd6.below hb68 bd6.lt
          have hbw6 : Below w.heap.size w w6 := hb4.trans (hb46.mono hb4.size)
          have hbw8 : Below w.heap.size w w8 := hbw6.trans (hb68.mono hbw6.size)
          have ld8 := bd8.lt
          have lx8 := bx8.lt
          have ld6 := bd6.lt
          clear d0 d1 d2 d3 d4 d5 d6
          obtain ⟨d0, d1, d2, d3, d4, d5, d6⟩ := bd8.facts
          obtain ⟨x0, x1, x2, x3, x4, x5, x6⟩ := bx8.facts
          have HSD : Hid (Calls Try.prog 26 #[.agg #[.string ⟨nm.toArray⟩, .int .i64 ka, .int .i64 na, .slice q6 (len (zed fa)) c6, .int .i64 kb, .int .i64 nb, .slice q7 (len (zed fb)) c7], .agg #[.string ⟨nm.toArray⟩, .int .i64 ka, .int .i64 na, .slice qa (len fa) ca, .int .i64 kb, .int .i64 nb, .slice qb (len fb) cb]] w8 fun e w' => e = .returned (.bool true) ∧ Below w8.heap.size w8 w') :=
            sameDecl_any nm (ka, na, zed fa) (kb, nb, zed fb) (ka, na, fa) (kb, nb, fb) q6 q7 qa qb c6 c7 ca cb w8 (hsl6.sl.below hb68) (hsl7.sl.below hb68) (hsa.below hbw8) (hsb.below hbw8) (zed_same _ _ _) (zed_same _ _ _) (by rw [size_zed]; show size fa ≤ 1000; omega) (by rw [size_zed]; show size fb ≤ 1000; omega) (by show size fa ≤ 1000; omega) (by show size fb ≤ 1000; omega)
          go_wp2_with fail
          refine HSD.out.mono ?_
          rintro e w9 ⟨rfl, hb9⟩
          clear d0 d1 d2 d3 d4 d5 d6 x0 x1 x2 x3 x4 x5 x6 hw8
          go_wp2_with fail
          go_meet
          case rel => exact ⟨bt8.below hb9, bd8.below hb9 bd8.lt, hbw8.trans (hb9.mono hbw8.size)⟩
      case rest =>
        clear bt4 bd4 hb4 HB
        obtain ⟨bt5, bd5, hb5⟩ := hcut
        obtain ⟨R, hR⟩ : ∃ R, getD l = R := ⟨_, rfl⟩
        have HG : Hid (Calls Try.prog 24 #[.slice p l.length cl] wc (PostD wc R)) := by
          rw [← hR]
          exact getDecl_any l p cl wc (hl.below hb5) hcl (by omega)
        have HR : Hid (getD l = R) := hR
        clear hR
        go_wp2_with fail
        refine HG.out.mono ?_
        rintro e w6 ⟨hb6, hr⟩
        have hbw6 : Below w.heap.size w w6 := hb5.trans (hb6.mono hb5.size)
        clear HG
        rcases R with x | ⟨m, ⟨xk, xn, xf⟩, ⟨yk, yn, yf⟩⟩
        · obtain ⟨rfl, hx⟩ := hr
          have tx : (x != 0) = true := by simpa using hx
          go_wp2_with fail
          go_region
          go_wp2_with fail
          go_ret
          exact ⟨rfl, (hbw6.alloc hbw6.size _).drew⟩
        · obtain ⟨q6, c6, q7, c7, rfl, hsl6, hsl7⟩ := hr
          simp only at hsl6 hsl7 ⊢
          obtain ⟨w8, hw8⟩ : ∃ w8, w6.alloc (.cells #[.string ⟨m.toArray⟩, .int .i64 xk, .int .i64 xn, .slice q6 (len xf) c6, .int .i64 yk, .int .i64 yn, .slice q7 (len yf) c7] 38) = w8 := ⟨_, rfl⟩
          have bx8 : Box7 w8 w6.heap.size (.string ⟨m.toArray⟩) (.int .i64 xk) (.int .i64 xn) (.slice q6 (len xf) c6) (.int .i64 yk) (.int .i64 yn) (.slice q7 (len yf) c7) := by rw [← hw8]; exact Box7.new _ _ _ _ _ _ _ _
          have hb68 : Below w6.heap.size w6 w8 := by rw [← hw8]; exact (Below.refl _ _).alloc (Nat.le_refl _) _
          have hbw8 : Below w.heap.size w w8 := hbw6.trans (hb68.mono hbw6.size)
          have sx8 : Sl w8 q6 xf := hsl6.sl.below hb68
          have sy8 : Sl w8 q7 yf := hsl7.sl.below hb68
          have lx8 := bx8.lt
          obtain ⟨x0, x1, x2, x3, x4, x5, x6⟩ := bx8.facts
          have HLD : Hid (declB m (xk, xn, xf) (yk, yn, yf) = l ∧ m.length ≤ 255) := ⟨(getD_back HR.out).symm, getD_name HR.out⟩
          have HDD : Hid (size xf ≤ 59 → size yf ≤ 59 → ∀ W : World, Below w8.heap.size w8 W → Calls Try.prog 25 #[.agg #[.string ⟨m.toArray⟩, .int .i64 xk, .int .i64 xn, .slice q6 (len xf) c6, .int .i64 yk, .int .i64 yn, .slice q7 (len yf) c7]] W fun e w' => (∃ p' c', e = .returned (.slice p' l.length c') ∧ (convert 39 9 (.slice p' l.length c')).run Try.prog w' = .ok (.string ⟨l.toArray⟩) w') ∧ Below W.heap.size W w') :=
            fun h1 h2 W hb => (decl_any m xf xk xn q6 c6 yf yk yn q7 c7 W (by have := HLD.out.2; omega) (by omega) (by omega) (sx8.below hb) (sy8.below hb)).mono fun e w' ⟨v', e1, hB, hbb⟩ => by
              rw [HLD.out.1] at hB
              obtain ⟨p', c', rfl, _, hs', _⟩ := hB.form
              exact ⟨⟨p', c', e1, conv_any w' l p' c' hs'⟩, hbb⟩
          have CV : Hid (∀ W : World, Below w8.heap.size w8 W → (convert 39 9 (.slice p l.length cl)).run Try.prog W = .ok (.string ⟨l.toArray⟩) W) := fun W hb => conv_any W l p cl (hl.below (hbw8.trans (hb.mono hbw8.size)))
          obtain ⟨v, hv⟩ : ∃ v, wrongT 200 200 xk xn xf = v := ⟨_, rfl⟩
          have HX : Hid (Calls Try.prog 12 #[.agg #[.int .i64 xk, .int .i64 xn, .slice q6 (len xf) c6], .int .i64 200, .int .i64 200] w8.drew fun e w' => e = .returned (.int .i64 v) ∧ Below w8.heap.size w8 w') :=
            (rwrong_any xf xk xn q6 c6 200 200 w8.drew (by omega) (by omega) sx8.drew).mono fun e w' ⟨h1, h2⟩ => ⟨by rw [h1, hv], undrew h2⟩
          obtain ⟨u, hu⟩ : ∃ u, wrongT 200 200 yk yn yf = u := ⟨_, rfl⟩
          have HY : Hid (∀ W : World, Below w8.heap.size w8 W → Calls Try.prog 12 #[.agg #[.int .i64 yk, .int .i64 yn, .slice q7 (len yf) c7], .int .i64 200, .int .i64 200] W fun e w' => e = .returned (.int .i64 u) ∧ Below W.heap.size W w') := fun W hb =>
            (rwrong_any yf yk yn q7 c7 200 200 W (by omega) (by omega) (sy8.below hb)).mono fun e w' ⟨h1, h2⟩ => ⟨by rw [h1, hu], h2⟩
          by_cases hv0 : v = 0
          · by_cases hu0 : u = 0
            · have HD := HDD.out (right_small (hv.trans hv0)) (right_small (hu.trans hu0))
              have HD2 : Hid (∀ W : World, Below w8.heap.size w8 W → Calls Try.prog 25 #[.agg #[.string ⟨m.toArray⟩, .int .i64 xk, .int .i64 xn, .slice q6 (len xf) c6, .int .i64 yk, .int .i64 yn, .slice q7 (len yf) c7]] W fun e w' => (∃ p' c', e = .returned (.slice p' l.length c') ∧ (convert 39 9 (.slice p' l.length c')).run Try.prog w' = .ok (.string ⟨l.toArray⟩) w') ∧ Below W.heap.size W w') := HD
              clear HD HDD hv hu
              subst hv0
              subst hu0
              go_wp2_with fail
              first
              | go_region_law (first
                  | (refine step_unwanted rfl ?_)
                  | (go_simp; go_at_call 12; with_reducible refine HX.out.mono ?_; rintro e w9 ⟨rfl, hb9⟩; have bx9 := bx8.below hb9 lx8; obtain ⟨y0, y1, y2, y3, y4, y5, y6⟩ := bx9.facts)
                  | (go_simp; go_at_call 12; with_reducible refine (HY.out w9 hb9).mono ?_; rintro e w10 ⟨rfl, hb10⟩; have hb810 : Below w8.heap.size w8 w10 := hb9.trans (hb10.mono hb9.size); have bx10 := bx8.below hb810 lx8; obtain ⟨z0, z1, z2, z3, z4, z5, z6⟩ := bx10.facts; have cv10 := CV.out w10 hb810)
                  | (go_simp; go_at_call 25; with_reducible refine (HD2.out w10 hb810).mono ?_; rintro e w11 ⟨⟨p11, c11, rfl, cvd⟩, hb11⟩; have hb811 : Below w8.heap.size w8 w11 := hb810.trans (hb11.mono hb810.size); have cv11 := CV.out w11 hb811))
              | fail
              all_goals
                go_wp2_with fail
                go_ret
                exact ⟨by first | rfl | simp, hbw8.trans (hb811.mono hbw8.size)⟩
            · have tu : (u != 0) = true := by simpa using hu0
              clear hv hu hu0 HDD
              subst hv0
              go_wp2_with fail
              first
              | go_region_law (first
                  | (refine step_unwanted rfl ?_)
                  | (go_simp; go_at_call 12; with_reducible refine HX.out.mono ?_; rintro e w9 ⟨rfl, hb9⟩; have bx9 := bx8.below hb9 lx8; obtain ⟨y0, y1, y2, y3, y4, y5, y6⟩ := bx9.facts)
                  | (go_simp; go_at_call 12; with_reducible refine (HY.out w9 hb9).mono ?_; rintro e w10 ⟨rfl, hb10⟩; have hb810 : Below w8.heap.size w8 w10 := hb9.trans (hb10.mono hb9.size); have bx10 := bx8.below hb810 lx8; obtain ⟨z0, z1, z2, z3, z4, z5, z6⟩ := bx10.facts))
              | fail
              all_goals
                go_wp2_with fail
                go_ret
                exact ⟨by first | rfl | simp, hbw8.trans (hb810.mono hbw8.size)⟩
          · have tv : (v != 0) = true := by simpa using hv0
            clear hv hv0 hu HDD HY
            go_wp2_with fail
            first
            | go_region_law (first
                | (refine step_unwanted rfl ?_)
                | (go_simp; go_at_call 12; with_reducible refine HX.out.mono ?_; rintro e w9 ⟨rfl, hb9⟩; have bx9 := bx8.below hb9 lx8; obtain ⟨y0, y1, y2, y3, y4, y5, y6⟩ := bx9.facts))
            | fail
            all_goals
              go_wp2_with fail
              go_ret
              exact ⟨by first | rfl | simp, hbw8.trans (hb9.mono hbw8.size)⟩
end Go.Proofs.Ytcgpjihfligdbaa
