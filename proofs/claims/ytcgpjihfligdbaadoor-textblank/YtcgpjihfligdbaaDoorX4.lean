/-
  The program's reader: the next word; where a name stands last; how many arguments a kind has; the kind behind a bracket.
-/
import Derived.Test.YtcgpjihfligdbaaDoorX3
import Derived.Test.YtcgpjihfligdbaaDoorX2
import Derived.Test.YtcgpjihfligdbaaDoorB3
import Derived.Deep.RegionLaw
namespace Go.Proofs.YtcgpjihfligdbaaDoor
open Go.RowKit Tmx
set_option maxRecDepth 60000

/-- What is behind the first text. -/
theorem tail_texts {lo : Nat} {w : World} {b o cap : Nat} {x : List UInt8} {r : List (List UInt8)} (h : Tx lo w (some ⟨b, o, none⟩) (x :: r)) (hcap : r.length + 1 ≤ cap) :
    ∃ b' o' : Nat, Tx lo w (some ⟨b', o', none⟩) r ∧ ∀ W : World, (Instr.sliceAt 36 (.slice (some ⟨b, o, none⟩) (r.length + 1) cap) (some (.int .i64 1)) none none).run Tryd.prog W = .ok (.slice (some ⟨b', o', none⟩) r.length (cap - 1)) W := by
  have hel : Tryd.prog.underlying 36 = some (.slice (Tryd.prog.elem 36)) := by kernel_rfl
  have hsz : ∀ W : World, (sizeOf (Tryd.prog.elem 36)).run Tryd.prog W = .ok 1 W := fun W => by kernel_rfl
  obtain ⟨b2, o2, h1, h2⟩ := h
  obtain ⟨he, hlo⟩ := h1 (by simp)
  obtain ⟨rfl, rfl⟩ : b = b2 ∧ o = o2 := by simpa using he
  by_cases hc : cap = 1
  · have hr0 : r = [] := List.eq_nil_of_length_eq_zero (by omega)
    refine ⟨b, o, by rw [hr0]; exact Tx.nil _ _ _, fun W => ?_⟩
    rw [run_sliceAt_slice _ _ _ _ _ _ hel, run_slice_l _ _ _ _ _ hel .i64 1 (by omega) (by omega), hsz]
    simp [sliced, hc, Result.andThen]
  · refine ⟨b, o + 1, ⟨b, o + 1, fun _ => ⟨rfl, hlo⟩, fun i hi => ?_⟩, fun W => ?_⟩
    · have := h2 (i + 1) (by simp; omega)
      rw [show o + 1 + i = o + (i + 1) by omega, this]
      rfl
    · rw [run_sliceAt_slice _ _ _ _ _ _ hel, run_slice_l _ _ _ _ _ hel .i64 1 (by omega) (by omega), hsz]
      simp [sliced, hc, Result.andThen]
      unfold Addr.add
      split <;> simp_all

theorem NamesIn.set {lo r : Nat} {w : World} {v : Value} {ns : List (List UInt8)} (h : NamesIn lo w v ns) (ho : v.ownBlock ≠ some r) {k : Nat} (u : Value) : NamesIn lo (w.setCell ⟨r, k, none⟩ u) v ns := by
  obtain ⟨g1, g2⟩ := h
  refine ⟨g1, ?_⟩
  rcases g2 with g2 | ⟨g, cap, cur, rfl, hg, hh, hr⟩
  · exact .inl g2
  · exact .inr ⟨g, cap, cur, rfl, hg, by rw [Below.heap_setCell _ _ _ _ (by show g ≠ r; intro e; exact ho (by rw [← e]; rfl))]; exact hh, hr⟩

set_option maxHeartbeats 1000000 in
set_option maxRecDepth 60000 in
theorem next_some (lo r : Nat) (w : World) (x : List UInt8) (ws ns ds : List (List UInt8)) (v : Value) (h : RS lo r w (x :: ws) ns ds v) :
    Calls Tryd.prog 76 #[.pointer (some ⟨r, 0, none⟩)] w fun e w' => e = .returned (.tuple #[.string ⟨x.toArray⟩, .bool true]) ∧ RS lo r w' ws ns ds v ∧ Kept r w w' := by
  obtain ⟨pw, cw, pd, cd, h1, h2, h3, h4⟩ := h.blk
  obtain ⟨b, o, rfl, hlo, hx⟩ := h2.at (i := 0) (by simp)
  rw [Nat.add_zero, List.getD_cons_zero] at hx
  obtain ⟨b1, o1, ht1, hsl⟩ := tail_texts h2 (by simpa using h3)
  rw [List.length_cons] at h1 h3
  obtain ⟨c0, c1, c2, f0, f1, f2⟩ := h1.facts
  go_enter Tryd.func76, Tryd.ntmps76
  go_wp2_with fail
  go_ret2
  refine ⟨rfl, ⟨⟨_, _, pd, cd, h1.setW _, ?_, by omega, ?_⟩, ?_, h.own, h.lor, ?_⟩, Kept.set _ ⟨r, 0, none⟩ _⟩
  · exact ht1.along fun b hb _ => Below.heap_setCell _ _ _ _ (by have := h.lor; show b ≠ r; omega)
  · exact h4.along fun b hb _ => Below.heap_setCell _ _ _ _ (by have := h.lor; show b ≠ r; omega)
  · exact NamesIn.set h.names h.own _
  · exact h.vs.along fun g hg _ => Below.heap_setCell _ _ _ _ (by have := h.lor; have := h.vs.1; show g ≠ r; omega)
set_option maxHeartbeats 1000000 in
set_option maxRecDepth 60000 in
theorem next_none' (lo r : Nat) (w : World) (ns ds : List (List UInt8)) (v : Value) (h : RS lo r w [] ns ds v) :
    Calls Tryd.prog 76 #[.pointer (some ⟨r, 0, none⟩)] w fun e w' => e = .returned (.tuple #[.string ⟨#[]⟩, .bool false]) ∧ w' = w := by
  obtain ⟨pw, cw, pd, cd, h1, h2, h3, h4⟩ := h.blk
  rw [List.length_nil] at h1
  obtain ⟨c0, c1, c2, f0, f1, f2⟩ := h1.facts
  clear h h1 h2 h3 h4
  go_enter Tryd.func76, Tryd.ntmps76
  go_wp2_with fail
  go_ret2
  exact ⟨rfl, rfl⟩

/-- Where a name stands last, as a number. -/
def flI (ns : List (List UInt8)) (wd : List UInt8) (n : Nat) : Int := match fl ns wd n with
  | some i => (i : Int)
  | none => -1
theorem flI_zero (ns : List (List UInt8)) (wd : List UInt8) : flI ns wd 0 = -1 := rfl
theorem flI_yes {ns : List (List UInt8)} {wd : List UInt8} {n : Nat} (hw : (ns.getD n [] == wd) = true) : flI ns wd (n + 1) = (n : Int) := by
  unfold flI
  rw [fl, if_pos (by simpa using hw)]
theorem flI_no {ns : List (List UInt8)} {wd : List UInt8} {n : Nat} (hw : (ns.getD n [] == wd) = false) : flI ns wd (n + 1) = flI ns wd n := by
  unfold flI
  rw [fl, if_neg (by simpa using hw)]
set_option maxHeartbeats 1000000 in
set_option maxRecDepth 60000 in
theorem lastOf_any (r : Nat) (w : World) (p : Option Addr) (c : Nat) (ns : List (List UInt8)) (wd : List UInt8) (h : Strs r w p ns) (hl : ns.length ≤ 1152921504606846976) :
    Calls Tryd.prog 97 #[.slice p ns.length c, .string ⟨wd.toArray⟩] w fun e w' => e = .returned (.int .i64 (flI ns wd ns.length)) ∧ w' = w := by
  obtain ⟨v, hv⟩ : ∃ v, flI ns wd ns.length = v := ⟨_, rfl⟩
  have HV0 : Hid (flI ns wd ns.length = v) := hv
  rw [hv]
  clear hv
  go_enter Tryd.func97, Tryd.ntmps97
  go_wp2_with fail
  go_loopg [5] ns.length (fun g i wr => ∃ j : Nat, g = j ∧ j ≤ ns.length ∧ i = .int .i64 ((j : Int) - 1) ∧ Hid (flI ns wd j = v) ∧ wr = w)
  case atStart => exact ⟨_, rfl, Nat.le_refl _, rfl, HV0, rfl⟩
  case round =>
    obtain ⟨j, hgj, hg, rfl, HV, rfl⟩ := hrel
    cases j with
    | zero =>
      have HN : Hid (v = -1) := by have := HV.out; rw [flI_zero] at this; exact this.symm
      go_wp2_with fail
      go_ret
      exact ⟨by rw [HN.out]; rfl, rfl⟩
    | succ n =>
      obtain ⟨b, o, rfl, hbr, hcell⟩ := h.at (i := n) (by omega)
      obtain ⟨x, hx⟩ : ∃ x, ns.getD n [] = x := ⟨_, rfl⟩
      rw [hx] at hcell
      rw [show ((n + 1 : Nat) : Int) - 1 = (n : Int) by omega]
      cases tw : (x == wd)
      · have HN : Hid (flI ns wd n = v) := by have := HV.out; rw [flI_no (by rw [hx]; exact tw)] at this; exact this
        clear HV hx
        go_wp2_with fail
        go_roundg n
        case measure => omega
        case rel => exact ⟨n, rfl, by omega, rfl, HN, rfl⟩
      · have HN : Hid (v = (n : Int)) := by have := HV.out; rw [flI_yes (by rw [hx]; exact tw)] at this; exact this.symm
        clear HV hx
        go_wp2_with fail
        go_ret
        exact ⟨by rw [HN.out]; rfl, rfl⟩

set_option maxHeartbeats 1000000 in
set_option maxRecDepth 60000 in
theorem many_any (k : Int) (w : World) (h : 1 ≤ k ∧ k ≤ 18) :
    Calls Tryd.prog 79 #[.int .i64 k] w fun e w' => e = .returned (.int .i64 ((shpL k).length : Int)) ∧ Below w.heap.size w w' := by
  have hlen := shpL_len k
  go_enter Tryd.func79, Tryd.ntmps79
  go_wp2_with fail
  refine (binds_yes k _ h).mono ?_
  rintro e w1 ⟨⟨g, rfl, hg⟩, hb1⟩
  clear hg
  go_wp2_with fail
  go_ret
  exact ⟨rfl, hb1⟩

set_option maxHeartbeats 1000000 in
set_option maxRecDepth 60000 in
theorem head_any (lo r : Nat) (w : World) (ws ns ds : List (List UInt8)) (v : Value) (h : RS lo r w ws ns ds v) :
    Calls Tryd.prog 94 #[.pointer (some ⟨r, 0, none⟩)] w fun e w' => e = .returned (.int .i64 (headKT ws)) ∧ RS lo r w' (headTT ws) ns ds v ∧ Kept r w w' := by
  cases ws with
  | nil =>
    obtain ⟨pw, cw, pd, cd, h1, h2, h3, h4⟩ := h.blk
    rw [List.length_nil] at h1
    obtain ⟨c0, c1, c2, f0, f1, f2⟩ := h1.facts
    rw [show headKT [] = 5 by decide, show headTT [] = [] by decide]
    have HS : Hid (RS lo r w [] ns ds v) := h
    clear h h1 h2 h3 h4
    go_enter Tryd.func94, Tryd.ntmps94
    go_wp2_with fail
    go_ret
    exact ⟨rfl, HS.out, Kept.refl _ _⟩
  | cons x ws =>
    obtain ⟨pw, cw, pd, cd, h1, h2, h3, h4⟩ := h.blk
    obtain ⟨b, o, rfl, hlo, hx⟩ := h2.at (i := 0) (by simp)
    rw [Nat.add_zero, List.getD_cons_zero] at hx
    rw [List.length_cons] at h1 h3
    obtain ⟨c0, c1, c2, f0, f1, f2⟩ := h1.facts
    have HS : Hid (RS lo r w (x :: ws) ns ds v) := h
    have hkn := kindOf_nn x
    have hk17 : Tmx.kindOf x ≤ 17 := kf_le 15 x
    have HH : Hid (headKT (x :: ws) = (if 0 < Tmx.kindOf x ∧ shpL (Tmx.kindOf x) ≠ [] then Tmx.kindOf x else 5) ∧ headTT (x :: ws) = (if 0 < Tmx.kindOf x ∧ shpL (Tmx.kindOf x) ≠ [] then ws else x :: ws)) := ⟨rfl, rfl⟩
    clear h h2 h3 h4
    go_enter Tryd.func94, Tryd.ntmps94
    go_wp2_with fail
    refine (pkindOf_any x w lo HS.out.vs).mono ?_
    rintro e w1 ⟨rfl, rfl⟩
    by_cases hk : 0 < Tmx.kindOf x
    · have hd : decide (0 < Tmx.kindOf x) = true := decide_eq_true hk
      rw [hd]
      clear hd
      have hsl := shpL_len (Tmx.kindOf x)
      go_wp2_with fail
      refine (many_any (Tmx.kindOf x) _ (by omega)).mono ?_
      rintro e w2 ⟨rfl, hb2⟩
      by_cases hs : shpL (Tmx.kindOf x) = []
      · have HH2 : Hid (headKT (x :: ws) = 5 ∧ headTT (x :: ws) = x :: ws) := by
          rw [HH.out.1, HH.out.2, if_neg (fun h => h.2 hs), if_neg (fun h => h.2 hs)]
          exact ⟨rfl, rfl⟩
        rw [hs]
        clear hs hsl
        go_wp2_with fail
        go_ret
        exact ⟨by rw [HH2.out.1]; rfl, by rw [HH2.out.2]; exact HS.out.below hb2, Kept.of_below hb2⟩
      · have HH2 : Hid (headKT (x :: ws) = Tmx.kindOf x ∧ headTT (x :: ws) = ws) := by
          rw [HH.out.1, HH.out.2, if_pos ⟨hk, hs⟩, if_pos ⟨hk, hs⟩]
          exact ⟨rfl, rfl⟩
        have hs0 : 0 < (shpL (Tmx.kindOf x)).length := List.length_pos_iff.2 hs
        clear hs
        go_wp2_with fail
        refine (next_some lo r w2 x ws ns ds v (HS.out.below hb2)).mono ?_
        rintro e w3 ⟨rfl, h3, hk3⟩
        go_wp2_with fail
        go_ret
        exact ⟨by rw [HH2.out.1]; rfl, by rw [HH2.out.2]; exact h3, (Kept.of_below hb2).trans hk3⟩
    · have hd : decide (0 < Tmx.kindOf x) = false := decide_eq_false hk
      rw [hd]
      clear hd
      have HH2 : Hid (headKT (x :: ws) = 5 ∧ headTT (x :: ws) = x :: ws) := by
        rw [HH.out.1, HH.out.2, if_neg (fun h => hk h.1), if_neg (fun h => hk h.1)]
        exact ⟨rfl, rfl⟩
      go_wp2_with fail
      go_ret
      exact ⟨by rw [HH2.out.1]; rfl, by rw [HH2.out.2]; exact HS.out, Kept.refl _ _⟩
end Go.Proofs.YtcgpjihfligdbaaDoor
