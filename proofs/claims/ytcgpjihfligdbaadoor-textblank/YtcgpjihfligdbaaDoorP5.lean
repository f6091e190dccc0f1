/-
  The program's writer: a term; and Print.
-/
import Derived.Test.YtcgpjihfligdbaaDoorP4
namespace Go.Proofs.YtcgpjihfligdbaaDoor
open Go.RowKit Tmx
set_option maxRecDepth 60000

theorem least_var (b d : Int) : least b d 1 = b := rfl
theorem least_def (b d : Int) : least b d 18 = d := rfl
theorem least_U (b d : Int) : least b d 2 = 4 := rfl

set_option maxRecDepth 60000 in
set_option maxHeartbeats 8000000 in
theorem wterm_succ (w0 : World) (b : Nat) (ds : List (List UInt8)) (m : Nat) (H : Hid (WrP w0 b ds m)) : WrP w0 b ds (m + 1) := by
  intro f k n p cap w l ns bv deep hm hs hlk h1 hbd hW hb0 hlen
  obtain ⟨hk, hlf, hn0, hnl, _, hdeep⟩ := lookT_args hlk
  have HLF : Hid (len f = (shpL k).length) := hlf
  clear hlf
  have hlo0 := hb0.size
  have hn1 : ns.length ≤ 1000 := by omega
  have hbA : Below w.heap.size w (w.alloc (.cells #[.int .i64 k, .int .i64 n, .slice p (len f) cap] 24)) := (Below.refl _ _).alloc (Nat.le_refl _) _
  have bx0 := Box.new w (.int .i64 k) (.int .i64 n) (.slice p (len f) cap)
  have hW0 := hW.below hbA
  have kp0 : KP w0.heap.size w (w.alloc (.cells #[.int .i64 k, .int .i64 n, .slice p (len f) cap] 24)) := KP.of_below hbA
  have hzA : (w.alloc (.cells #[.int .i64 k, .int .i64 n, .slice p (len f) cap] 24)).heap.size = w.heap.size + 1 := by simp
  by_cases hk1 : k = 1
  · subst hk1
    rw [least_var] at hnl
    have hP : ppT ds ns 1 n f = ns.getD (ns.length - 1 - n.toNat) [] := rfl
    rw [hP] at hlen ⊢
    obtain ⟨pn, cn, rfl⟩ := hW0.names.form
    obtain ⟨A, U, pd, cd, q1, _, _, _⟩ := hW0.blk
    obtain ⟨wd, hwd⟩ : ∃ wd, ns.getD (ns.length - 1 - n.toNat) [] = wd := ⟨_, rfl⟩
    have HC1 : Hid (Calls Tryd.prog 83 #[.slice pn ns.length cn, .int .i64 ((ns.length : Int) - 1 - n)] (w.alloc (.cells #[.int .i64 1, .int .i64 n, .slice p (len f) cap] 24)).drew fun e w' => e = .returned (.string ⟨wd.toArray⟩) ∧ w' = (w.alloc (.cells #[.int .i64 1, .int .i64 n, .slice p (len f) cap] 24)).drew) := by
      have := nameAt_any (w0.heap.size - 1) (w.alloc (.cells #[.int .i64 1, .int .i64 n, .slice p (len f) cap] 24)).drew pn cn ns ((ns.length : Int) - 1 - n) (hW0.drew.names.strs (by have := hW.vs.1; omega)) (by omega) (by omega)
      rw [show ((ns.length : Int) - 1 - n).toNat = ns.length - 1 - n.toNat by omega, hwd] at this
      exact this
    rw [hwd] at hlen ⊢
    clear hwd hP
    have HC2 : Hid (Calls Tryd.prog 82 #[.pointer (some ⟨b, 0, none⟩), .string ⟨wd.toArray⟩] (w.alloc (.cells #[.int .i64 1, .int .i64 n, .slice p (len f) cap] 24)).drew fun e w' => (∃ v, e = .returned v) ∧ WS w0.heap.size b w' (l ++ wd) ns ds (.slice pn ns.length cn) ∧ KP w0.heap.size (w.alloc (.cells #[.int .i64 1, .int .i64 n, .slice p (len f) cap] 24)).drew w') := writeString_any hW0.drew wd hlen
    obtain ⟨c0, c1, c2, c3, f0, f1, f2⟩ := q1.facts
    obtain ⟨x0, x1, x2, u0, u1, u2⟩ := bx0.facts
    have c2' : (w.alloc (.cells #[.int .i64 1, .int .i64 n, .slice p (len f) cap] 24)).drew.cell? ⟨b, 2, none⟩ = some (.slice pn ns.length cn) := c2
    have x1' : (w.alloc (.cells #[.int .i64 1, .int .i64 n, .slice p (len f) cap] 24)).drew.cell? ⟨w.heap.size, 1, none⟩ = some (.int .i64 n) := x1
    have hnI : n < 1000 := by omega
    clear q1 c0 c1 c3 f0 f1 f2 H
    go_enter Tryd.func54, Tryd.ntmps54
    go_wp2_with fail
    generalize w.alloc (.cells #[.int .i64 1, .int .i64 n, .slice p (len f) cap] 24) = W at *
    first
    | go_region_law (first
        | (go_simp; go_at_call 83; rw [wrapI ((ns.length : Int) - 1) (by omega) (by omega), wrapI ((ns.length : Int) - 1 - n) (by omega) (by omega)]; with_reducible refine HC1.out.mono ?_; rintro e w2 ⟨rfl, rfl⟩)
        | (go_simp; go_at_call 82; with_reducible refine HC2.out.mono ?_; rintro e w3 ⟨⟨v3, rfl⟩, hS3, kp3⟩))
    | fail
    all_goals
      go_wp2_with fail
      go_end0
      exact ⟨⟨_, rfl⟩, ⟨_, hS3⟩, kp0.trans kp3.drew⟩
  · by_cases hk18 : k = 18
    · subst hk18
      rw [least_def] at hnl
      have hP : ppT ds ns 18 n f = ds.getD n.toNat [] := rfl
      rw [hP] at hlen ⊢
      obtain ⟨A, U, pd, cd, q1, _, _, hTd⟩ := hW0.blk
      obtain ⟨wd, hwd⟩ : ∃ wd, ds.getD n.toNat [] = wd := ⟨_, rfl⟩
      have HC1 : Hid (Calls Tryd.prog 83 #[.slice pd ds.length cd, .int .i64 n] (w.alloc (.cells #[.int .i64 18, .int .i64 n, .slice p (len f) cap] 24)).drew fun e w' => e = .returned (.string ⟨wd.toArray⟩) ∧ w' = (w.alloc (.cells #[.int .i64 18, .int .i64 n, .slice p (len f) cap] 24)).drew) := by
        have := nameAt_any w0.heap.size (w.alloc (.cells #[.int .i64 18, .int .i64 n, .slice p (len f) cap] 24)).drew pd cd ds n (Strs.of_tx (hTd.along fun b _ _ => rfl) (Nat.le_refl _)) (by omega) (by omega)
        rw [hwd] at this
        exact this
      rw [hwd] at hlen ⊢
      clear hwd hP
      have HC2 : Hid (Calls Tryd.prog 82 #[.pointer (some ⟨b, 0, none⟩), .string ⟨wd.toArray⟩] (w.alloc (.cells #[.int .i64 18, .int .i64 n, .slice p (len f) cap] 24)).drew fun e w' => (∃ v, e = .returned v) ∧ WS w0.heap.size b w' (l ++ wd) ns ds bv ∧ KP w0.heap.size (w.alloc (.cells #[.int .i64 18, .int .i64 n, .slice p (len f) cap] 24)).drew w') := writeString_any hW0.drew wd hlen
      obtain ⟨c0, c1, c2, c3, f0, f1, f2⟩ := q1.facts
      obtain ⟨x0, x1, x2, u0, u1, u2⟩ := bx0.facts
      have c3' : (w.alloc (.cells #[.int .i64 18, .int .i64 n, .slice p (len f) cap] 24)).drew.cell? ⟨b, 3, none⟩ = some (.slice pd ds.length cd) := c3
      have x1' : (w.alloc (.cells #[.int .i64 18, .int .i64 n, .slice p (len f) cap] 24)).drew.cell? ⟨w.heap.size, 1, none⟩ = some (.int .i64 n) := x1
      clear q1 c0 c1 c2 f0 f1 f2 H
      go_enter Tryd.func54, Tryd.ntmps54
      go_wp2_with fail
      generalize w.alloc (.cells #[.int .i64 18, .int .i64 n, .slice p (len f) cap] 24) = W at *
      first
      | go_region_law (first
          | (go_simp; go_at_call 83; with_reducible refine HC1.out.mono ?_; rintro e w2 ⟨rfl, rfl⟩)
          | (go_simp; go_at_call 82; with_reducible refine HC2.out.mono ?_; rintro e w3 ⟨⟨v3, rfl⟩, hS3, kp3⟩))
      | fail
      all_goals
        go_wp2_with fail
        go_end0
        exact ⟨⟨_, rfl⟩, ⟨_, hS3⟩, kp0.trans kp3.drew⟩
    · by_cases hk2 : k = 2
      · subst hk2
        rw [least_U] at hnl
        obtain ⟨N, rfl⟩ : ∃ N : Nat, n = (N : Int) := ⟨n.toNat, by omega⟩
        have hit := itoa4 ⟨N, by omega⟩
        simp only at hit
        have hP : ppT ds ns 2 (N : Int) f = 85 :: Lib.itoa (N : Int) := rfl
        rw [hP, hit] at hlen ⊢
        have HC1 : Hid (Calls Tryd.prog 56 #[.int .i64 (N : Int)] (w.alloc (.cells #[.int .i64 2, .int .i64 (N : Int), .slice p (len f) cap] 24)).drew fun e w' => e = .returned (.string ⟨[UInt8.ofNat (48 + N)].toArray⟩) ∧ Below (w.alloc (.cells #[.int .i64 2, .int .i64 (N : Int), .slice p (len f) cap] 24)).drew.heap.size (w.alloc (.cells #[.int .i64 2, .int .i64 (N : Int), .slice p (len f) cap] 24)).drew w') := by
          have := itoa_any (N : Int) (by omega) (by omega) (w.alloc (.cells #[.int .i64 2, .int .i64 (N : Int), .slice p (len f) cap] 24)).drew hW0.drew.vs.2.2.2.1
          rw [hit] at this
          exact this
        clear hit hP
        obtain ⟨c, hc⟩ : ∃ c, UInt8.ofNat (48 + N) = c := ⟨_, rfl⟩
        rw [hc] at HC1 hlen ⊢
        clear hc
        have HC2 : Hid (∀ W' : World, Below (w.alloc (.cells #[.int .i64 2, .int .i64 (N : Int), .slice p (len f) cap] 24)).drew.heap.size (w.alloc (.cells #[.int .i64 2, .int .i64 (N : Int), .slice p (len f) cap] 24)).drew W' → Calls Tryd.prog 82 #[.pointer (some ⟨b, 0, none⟩), .string ({ data := #[85] } ++ { data := [c].toArray })] W' fun e w' => (∃ v, e = .returned v) ∧ WS w0.heap.size b w' (l ++ [85, c]) ns ds bv ∧ KP w0.heap.size W' w') := fun W' hb => by
          rw [bs_append [85] [c]]
          exact writeString_any (hW0.drew.below hb) [85, c] hlen
        obtain ⟨x0, x1, x2, u0, u1, u2⟩ := bx0.facts
        have x1' : (w.alloc (.cells #[.int .i64 2, .int .i64 (N : Int), .slice p (len f) cap] 24)).drew.cell? ⟨w.heap.size, 1, none⟩ = some (.int .i64 (N : Int)) := x1
        clear H
        go_enter Tryd.func54, Tryd.ntmps54
        go_wp2_with fail
        generalize w.alloc (.cells #[.int .i64 2, .int .i64 (N : Int), .slice p (len f) cap] 24) = W at *
        first
        | go_region_law (first
            | (go_simp; go_at_call 56; with_reducible refine HC1.out.mono ?_; rintro e w2 ⟨rfl, hb2⟩)
            | (go_simp; go_at_call 82; with_reducible refine (HC2.out w2 hb2).mono ?_; rintro e w3 ⟨⟨v3, rfl⟩, hS3, kp3⟩))
        | fail
        all_goals
          go_wp2_with fail
          go_end0
          exact ⟨⟨_, rfl⟩, ⟨_, hS3⟩, kp0.trans ((KP.of_below hb2).trans kp3).drew⟩
      · have t1 : (k == 1) = false := by simpa using hk1
        have t18 : (k == 18) = false := by simpa using hk18
        have t2 : (k == 2) = false := by simpa using hk2
        have HKC : Hid (Calls Tryd.prog 84 #[.pointer (some ⟨b, 0, none⟩), .agg #[.int .i64 k, .int .i64 n, .slice p (len f) cap]] (w.alloc (.cells #[.int .i64 k, .int .i64 n, .slice p (len f) cap] 24)) (WrPost w0.heap.size b ds (w.alloc (.cells #[.int .i64 k, .int .i64 n, .slice p (len f) cap] 24)) (l ++ ppT ds ns k n f) ns)) := by
          by_cases hsk : shpL k = []
          · have hP : ppT ds ns k n f = wordL k.toNat := by unfold ppT atomP; rw [if_pos hsk, if_neg hk1, if_neg hk18, if_neg hk2]
            have hl0 : len f = 0 := by rw [HLF.out, hsk]; rfl
            rw [hP] at hlen ⊢
            rw [hl0] at hW0 hbA ⊢
            exact wkind_leaf w0 b ds k n p cap _ l ns bv hk hsk hk2 hk18 hW0 (hb0.trans (hbA.mono hlo0)) hlen
          · exact wkind_node w0 b ds m H f k n p cap _ l ns bv deep (by omega) hs hlk hsk h1 hbd hW0 (hb0.trans (hbA.mono hlo0)) hlen
        obtain ⟨x0, x1, x2, u0, u1, u2⟩ := bx0.facts
        clear H
        go_enter Tryd.func54, Tryd.ntmps54
        go_wp2_with fail
        refine HKC.out.mono ?_
        rintro e w2 ⟨⟨v2, rfl⟩, hS2, kp2⟩
        go_wp2_with fail
        go_end0
        exact ⟨⟨_, rfl⟩, hS2, kp0.trans kp2⟩
theorem wterm_all (w0 : World) (b : Nat) (ds : List (List UInt8)) : ∀ m, WrP w0 b ds m
  | 0 => fun f k n p cap w l ns bv deep hm => by omega
  | m + 1 => wterm_succ w0 b ds m (wterm_all w0 b ds m)

set_option maxRecDepth 60000 in
set_option maxHeartbeats 4000000 in
theorem pprint_any (w : World) (k n : Int) (f : F) (p pn pd : Option Addr) (cap cn cd : Nat) (ns ds : List (List UInt8)) (hs : Sl w p f) (hlk : lookT ds.length ns.length 1 k n f = 0) (hn : Tx w.heap.size w pn ns) (hd : Tx w.heap.size w pd ds) (hv : Vs w.heap.size w) (hp : pn = none → cn = 0) (hn1 : ns.length ≤ 900) (hlen : (ppT ds ns k n f).length ≤ 140737488355328) :
    Calls Tryd.prog 25 #[.agg #[.int .i64 k, .int .i64 n, .slice p (len f) cap], .slice pn ns.length cn, .slice pd ds.length cd] w fun e w' => e = .returned (.string ⟨(ppT ds ns k n f).toArray⟩) ∧ Below w.heap.size w w' := by
  have hbA : Below w.heap.size w (w.alloc (.cells #[.int .i64 k, .int .i64 n, .slice p (len f) cap] 24)) := (Below.refl _ _).alloc (Nat.le_refl _) _
  have bx0 := Box.new w (.int .i64 k) (.int .i64 n) (.slice p (len f) cap)
  go_enter Tryd.func25, Tryd.ntmps25
  go_wp2_with fail
  refine (clone_any w.heap.size _ pn cn ns (Strs.of_tx (hn.along fun b _ hs => hbA.block b hs) (Nat.le_refl _)) hp (by omega)).mono ?_
  rintro e w2 ⟨⟨v, rfl, hN2⟩, hb2⟩
  obtain ⟨pb, cb, rfl⟩ := hN2.form
  have bx2 := bx0.below hb2
  have hb02 : Below w.heap.size w w2 := hbA.trans (hb2.mono (by simp))
  have hz2 := hb02.size
  have hbR : Below w2.heap.size w2 (w2.alloc (.cells #[.pointer none, .slice none 0 0, .slice pb ns.length cb, .slice pd ds.length cd] 86)) := (Below.refl _ _).alloc (Nat.le_refl _) _
  have hb03 : Below w.heap.size w (w2.alloc (.cells #[.pointer none, .slice none 0 0, .slice pb ns.length cb, .slice pd ds.length cd] 86)) := hb02.trans (hbR.mono hz2)
  have hN3 : NamesIn w.heap.size (w2.alloc (.cells #[.pointer none, .slice none 0 0, .slice pb ns.length cb, .slice pd ds.length cd] 86)) (.slice pb ns.length cb) ns := by
    have h1 := hN2.along (w' := w2.alloc (.cells #[.pointer none, .slice none 0 0, .slice pb ns.length cb, .slice pd ds.length cd] 86)) fun b _ hs => hbR.block b hs
    obtain ⟨g1, g2⟩ := h1
    refine ⟨g1, ?_⟩
    rcases g2 with g2 | ⟨g, cap', cur, e, hg, hr⟩
    · exact .inl g2
    · exact .inr ⟨g, cap', cur, e, by simp at hg; omega, hr⟩
  have hWS : WS w.heap.size w2.heap.size (w2.alloc (.cells #[.pointer none, .slice none 0 0, .slice pb ns.length cb, .slice pd ds.length cd] 86)) [] ns ds (.slice pb ns.length cb) := by
    refine ⟨⟨_, _, pd, cd, heap_alloc_new _ _, .inl rfl, ⟨World.ownsRow_nil _ _ 5 1, fun _ => rfl⟩, hd.along fun b _ hs => hb03.block b hs⟩, hN3, hz2, hv.below hb03⟩
  have bx3 := bx2.below hbR
  obtain ⟨x0, x1, x2, u0, u1, u2⟩ := bx3.facts
  have hblt := bx2.lt
  have HTC : Hid (Calls Tryd.prog 54 #[.pointer (some ⟨w2.heap.size, 0, none⟩), .agg #[.int .i64 k, .int .i64 n, .slice p (len f) cap]] (w2.alloc (.cells #[.pointer none, .slice none 0 0, .slice pb ns.length cb, .slice pd ds.length cd] 86)) (WrPost w.heap.size w2.heap.size ds (w2.alloc (.cells #[.pointer none, .slice none 0 0, .slice pb ns.length cb, .slice pd ds.length cd] 86)) ([] ++ ppT ds ns k n f) ns)) :=
    wterm_all w w2.heap.size ds (size f + 1) f k n p cap _ [] ns _ 1 (by omega) hs hlk (by omega) (by omega) hWS hb03 (by simpa using hlen)
  obtain ⟨y0, y1, y2, _, _, _⟩ := bx2.facts
  go_wp2_with fail
  refine HTC.out.mono ?_
  rintro e w4 ⟨⟨v4, rfl⟩, ⟨bv4, hS4⟩, kp4⟩
  go_wp2_with fail
  refine (bstring_any hS4).mono ?_
  rintro e w5 ⟨rfl, hb5⟩
  go_wp2_with fail
  go_ret
  exact ⟨rfl, (hb03.trans (kp4.below (by have := hb03.size; omega))).trans hb5⟩
end Go.Proofs.YtcgpjihfligdbaaDoor
