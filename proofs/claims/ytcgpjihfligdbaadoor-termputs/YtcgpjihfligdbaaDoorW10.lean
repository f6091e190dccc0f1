/-
  anyVar and Uses: whether some variable has a property, and whether a free one is there.
-/
import Derived.Test.YtcgpjihfligdbaaDoorW1
import Derived.Test.YtcgpjihfligdbaaDoorMem2
import Derived.Test.YtcgpjihfligdbaaDoorPlain5
import Derived.Deep.RegionHeld3
import Derived.Test.YtcgpjihfligdbaaDoorPlain8
namespace Go.Proofs.YtcgpjihfligdbaaDoor
open Go.RowKit Tmx

/-- What a function value tells. -/
def Tells (c : Nat) (caps : Array Value) (g : Int → Int → Bool) (W : World) : Prop :=
  ∀ (n within : Int) (w : World), Below W.heap.size W w → 0 ≤ n → n ≤ 1152921504606846976 → 0 ≤ within → within ≤ 1152921504606846976 →
    Calls Tryd.prog c (#[.int .i64 n, .int .i64 within] ++ caps) w fun e w' => e = .returned (.bool (g n within)) ∧ Below w.heap.size w w'

set_option maxHeartbeats 1000000 in
theorem anyVar_any (c : Nat) (caps : Array Value) (g : Int → Int → Bool) (W : World) (hcall : ∀ a W, Sem.run Tryd.prog (callFunc c a) W = .ok (Next.enter c a) W) (hf : Tells c caps g W) (m : Nat) :
    ∀ (f : F) (k n within : Int) (q : Option Addr) (cap : Nat) (w : World), size f < m → size f ≤ 1099511627776 → nums f → (k = 1 → 0 ≤ n ∧ n ≤ 1152921504606846976) → 0 ≤ within → within + 2 * size f ≤ 1152921504606846976 → Sl w q f → Below W.heap.size W w →
    Calls Tryd.prog 44 #[.agg #[.int .i64 k, .int .i64 n, .slice q (len f) cap], .int .i64 within, .func (.func c) #[] caps] w fun e w' => e = .returned (.bool (anyT g k n f within)) ∧ Below w.heap.size w w' := by
  induction m with
  | zero => intro f k n within q cap w h; omega
  | succ m ih =>
    intro f k n within q cap w hm hsz hnum hkn h0 hw hs hW
    have H := (show Hid _ from ih)
    clear ih
    by_cases hk : k = 1
    · have MT : Hid (anyT g k n f within = g n within) := by unfold anyT; rw [if_pos hk]; rfl
      have tk : (k == 1) = true := by simpa using hk
      obtain ⟨hn0, hn1⟩ := hkn hk
      clear hk
      go_enter Tryd.func44, Tryd.ntmps44
      go_wp2_with fail
      refine (hf n within _ (hW.trans (((Below.refl _ _).alloc (Nat.le_refl _) _).mono hW.size)) hn0 hn1 h0 (by omega)).mono ?_
      rintro e w1 ⟨rfl, hb1⟩
      go_wp2_with fail
      go_ret
      exact ⟨by rw [MT.out]; rfl, ((Below.refl _ _).alloc (Nat.le_refl _) _).trans (hb1.mono (by simp))⟩
    · have tk : (k == 1) = false := by simpa using hk
      have MT : Hid (anyT g k n f within = anyF g f within k 0) := by unfold anyT; rw [if_neg hk]; rfl
      clear hk hkn
      have hls := len_le_size f
      generalize anyT g k n f within = v at MT ⊢
      go_enter Tryd.func44, Tryd.ntmps44
      go_wp2_with fail
      go_loopw [7, 20] (fun _ i wr => ∃ j : Nat, j ≤ len f ∧ i = .int .i64 j ∧ anyF g (drop j f) within k j = v ∧ Below w.heap.size w wr ∧ Box wr w.heap.size (.int .i64 k) (.int .i64 n) (.slice q (len f) cap)) (fun _ i _ => len f - (intOf i).toNat)
      case atStart => exact ⟨0, Nat.zero_le _, rfl, MT.out.symm, (Below.refl _ _).alloc (Nat.le_refl _) _, Box.new _ _ _ _⟩
      case round =>
        obtain ⟨j, hj, rfl, hv, hb, bx⟩ := hrel
        have HV : Hid (anyF g (drop j f) within k j = v) := hv
        clear hv
        by_cases hlt : j < len f
        · obtain ⟨b, o, k', n', p, cap', x, y, l, r, rfl, e, hbl, c1, c2, c3, hsl⟩ := hs.at hb hlt
          have hz := size_drop j f
          rw [e, size] at hz
          have hnj := nums_drop j f hnum
          rw [e, nums] at hnj
          have E1 : Hid (drop j f = .node x y (k', n') l r) := e
          have HN : Hid (nums (.node x y (k', n') l r)) := hnj
          clear e hnj
          obtain ⟨x0, x1, x2, _, _, _⟩ := bx.facts
          have l1 := bx.lt
          have hbb := bindsAt_bd k j
          go_wp2_with fail
          go_region_held3 (fun w' => w'.cell? ⟨wr.heap.size, 0, none⟩ = some (.int .i64 k') ∧ w'.cell? ⟨wr.heap.size, 1, none⟩ = some (.int .i64 n') ∧ w'.cell? ⟨wr.heap.size, 2, none⟩ = some (.slice p (len l) cap') ∧
              w'.cell? ⟨w.heap.size, 0, none⟩ = some (.int .i64 k)) (go_keep)
            (first | (go_at_call 73; refine (bindsAt_any k j _).mono ?_; rintro e w' ⟨rfl, rfl⟩) | (go_at_call 44; rw [wrapI (within + bindsAt k j) (by omega) (by omega)]; refine (H.out l k' n' (within + bindsAt k j) p cap' _ (by omega) (by omega) HN.out.2.1 HN.out.1 (by omega) (by omega) (hsl.below ((Below.refl _ _).alloc (Nat.le_refl _) _).drew) (hW.trans ((hb.trans (((Below.refl _ _).alloc (Nat.le_refl _) _).drew.mono hb.size)).mono hW.size))).mono ?_; rintro e w1 ⟨rfl, hb1'⟩; have hb1 := undrew hb1'; clear hb1'; have bx1 := (bx.alloc _).below hb1; have bn1 := (Box.new wr _ _ _).below hb1; obtain ⟨y0, y1, y2, _, _, _⟩ := bx1.facts; obtain ⟨u0, u1, u2, _, _, _⟩ := bn1.facts))
          have hb12 : Below wr.heap.size wr w1 := ((Below.refl _ _).alloc (Nat.le_refl _) _).trans (hb1.mono (by simp))
          have hb2 : Below w.heap.size w w1 := hb.trans (hb12.mono hb.size)
          cases tt : anyT g k' n' l (within + bindsAt k j)
          · have HY : Hid (anyF g (drop (j + 1) f) within k ((j + 1 : Nat)) = v) := anyF_no E1.out HV.out tt
            go_wp2_with fail
            go_roundw
            case rel => exact ⟨j + 1, hlt, by go_num, HY.out, hb2, bx1⟩
            case measure => simp [intOf]; omega
          · have HY : Hid (v = true) := anyF_yes E1.out HV.out tt
            go_wp2_with fail
            go_ret
            exact ⟨by rw [HY.out]; rfl, hb2⟩
        · go_wp2
          go_ret
          obtain rfl : j = len f := by omega
          have hv := HV.out
          rw [drop_len, anyF] at hv
          subst hv
          exact ⟨rfl, hb⟩

theorem hcUses : ∀ a W, Sem.run Tryd.prog (callFunc 45 a) W = .ok (Next.enter 45 a) W := fun a W => by kernel_rfl
set_option maxHeartbeats 400000 in
theorem uses1_any (n m within : Int) (x : Nat) (w : World) (hm0 : 0 ≤ m) (hm1 : m ≤ 1152921504606846976) (hw0 : 0 ≤ within) (hw1 : within ≤ 1152921504606846976) (cn : w.cell? ⟨x, 0, none⟩ = some (.int .i64 n)) :
    Calls Tryd.prog 45 #[.int .i64 m, .int .i64 within, .pointer (some ⟨x, 0, none⟩)] w fun e w' => e = .returned (.bool (usesG n m within)) ∧ Below w.heap.size w w' := by
  go_enter Tryd.func45, Tryd.ntmps45
  go_wp2_with fail
  go_ret
  exact ⟨rfl, Below.refl _ _⟩

theorem uses_tells (m : Int) (x : Nat) (W : World) (cn : W.cell? ⟨x, 0, none⟩ = some (.int .i64 m)) : Tells 45 #[.pointer (some ⟨x, 0, none⟩)] (usesG m) W := fun n within w hb a1 a2 a3 a4 =>
  uses1_any m n within x w a1 a2 a3 a4 (below_some hb _ _ _ cn)

set_option maxHeartbeats 400000 in
theorem uses_any (f : F) (k n m : Int) (q : Option Addr) (cap : Nat) (w : World) (hsz : size f ≤ 1099511627776) (hnum : nums f) (hkn : k = 1 → 0 ≤ n ∧ n ≤ 1152921504606846976) (hm0 : 0 ≤ m) (hs : Sl w q f) :
    Calls Tryd.prog 13 #[.agg #[.int .i64 k, .int .i64 n, .slice q (len f) cap], .int .i64 m] w fun e w' => e = .returned (.bool (anyT (usesG m) k n f 0)) ∧ Below w.heap.size w w' := by
  go_enter Tryd.func13, Tryd.ntmps13
  go_wp2_with fail
  have cn : ((w.alloc (.cells #[.int .i64 k, .int .i64 n, .slice q (len f) cap] 24)).alloc (.cells #[.int .i64 m] 3)).cell? ⟨w.heap.size + 1, 0, none⟩ = some (.int .i64 m) := by simp [go_sem]
  have hB2 : Below w.heap.size w ((w.alloc (.cells #[.int .i64 k, .int .i64 n, .slice q (len f) cap] 24)).alloc (.cells #[.int .i64 m] 3)) := ((Below.refl _ _).alloc (Nat.le_refl _) _).alloc (by simp) _
  have hsize : ((w.alloc (.cells #[.int .i64 k, .int .i64 n, .slice q (len f) cap] 24)).alloc (.cells #[.int .i64 m] 3)).heap.size = w.heap.size + 2 := by simp
  generalize ((w.alloc (.cells #[.int .i64 k, .int .i64 n, .slice q (len f) cap] 24)).alloc (.cells #[.int .i64 m] 3)) = W4 at *
  refine (anyVar_any 45 _ (usesG m) W4 hcUses (uses_tells m (w.heap.size + 1) W4 cn) (size f + 1) f k n 0 q cap W4 (by omega) hsz hnum hkn (by omega) (by omega) (hs.below hB2) (Below.refl _ _)).mono ?_
  rintro e w1 ⟨rfl, hb⟩
  clear cn
  go_wp2_with fail
  go_ret
  exact ⟨rfl, hB2.trans (hb.mono (by omega))⟩
end Go.Proofs.YtcgpjihfligdbaaDoor
