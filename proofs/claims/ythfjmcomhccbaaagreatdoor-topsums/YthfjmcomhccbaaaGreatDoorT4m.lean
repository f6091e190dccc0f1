/-
  The statements' own: alive (a book of one declaration, and its number).
-/
/-
  The statements' own: loaded (the book of sums, all taken).
-/
/-
  The numbers that the statement TopSums asks, reckoned.
-/
/-
  The statement TopSums: the walk.
-/
import Derived.Test.YthfjmcomhccbaaaGreatDoorBK12m
import Derived.ProofKit
namespace Go.Proofs.YthfjmcomhccbaaaGreatDoor
open Go.RowKit Tmx Evx
set_option maxRecDepth 60000

def bodies (l : List Dcl) : List (Int × Int × F) := l.map (·.B)
/-- The number that a term comes to, with declarations. -/
def numD (s m : Nat) (l : List Dcl) (x : X3) : Option Int := numV s m (later ⟨0, 0, bodies l⟩ x.1 x.2.1 x.2.2 [])
theorem one_counted : numD 60 400 oneD (18, 0, .nil) = some 1 := by kernel_rfl
/-- Where the row of verdicts lies. -/
theorem ownsRow_cells {w : World} {lo sz n : Nat} {e : TypeId} {p : Option Addr} {c : Nat} {xs : List Value} (h : w.ownsRow lo e sz (.slice p n c) n xs) (h0 : 0 < n) :
    ∃ g, p = some ⟨g, 0, none⟩ ∧ lo ≤ g ∧ g < w.heap.size ∧ ∀ (i : Nat) (x : Value), xs[i]? = some x → w.cell? ⟨g, i, none⟩ = some x := by
  have h' := h
  obtain ⟨h1, h2⟩ := h'
  rcases h2 with ⟨_, rfl⟩ | ⟨g, cap, cur, e1, hb, hh, _⟩
  · omega
  · simp only [Value.slice.injEq] at e1
    obtain ⟨rfl, _, _⟩ := e1
    obtain ⟨hlt, _⟩ := Array.getElem?_eq_some_iff.1 hh
    refine ⟨g, rfl, hb, hlt, fun i x hx => ?_⟩
    rw [World.ownsRow.cellAt h i (by obtain ⟨hl, _⟩ := List.getElem?_eq_some_iff.1 hx; omega)]
    exact hx

/-- Number, of declarations that were taken. -/
theorem number_decls (s m : Nat) (hm : m ≤ 1000000) (l : List Dcl) (p q : Option Addr) (cap c nn : Nat) (k n r : Int) (f : F) (w : World) (hl : l.length = nn) (hd : DlAt w p l) (hn : ∀ x, x ∈ l → x.T.1 ≠ 1 ∧ x.B.1 ≠ 1) (hnn : nn ≤ 1000) (hc : len f ≤ c) (hq : SlO (old w) w q f) (hk : k ≠ 1)
    (hr : numD s m l (k, n, f) = some r) :
    Calls Tryz.prog 7 #[.slice p nn cap, .agg #[.int .i64 k, .int .i64 n, .slice q (len f) c]] w fun e w' => e = .returned (.tuple #[.int .i64 r, .bool true]) ∧ Below w.heap.size w w' := by
  subst hl
  have h := hd.ds cap hn hnn
  have := numberTop_any s m hm p q cap c (bodies l) k n r f w h.defs (by rw [bodies, List.length_map]; exact hnn) hc hq hk hr
  rw [show (bodies l).length = l.length from List.length_map _] at this
  exact this

set_option maxHeartbeats 4000000 in
theorem alive_any (w : World) (hv : Vs w.heap.size w) :
    Calls Tryz.prog 5 #[] w fun e w' => e = .returned (.bool true) ∧ Below w.heap.size w w' := by
  have HL : Calls Tryz.prog 11 #[.string ⟨#[40, 100, 101, 102, 32, 111, 110, 101, 32, 110, 97, 116, 32, 40, 115, 117, 99, 32, 122, 101, 114, 111, 41, 41]⟩] w fun e w' => (∃ v u, e = .returned (.tuple #[v, u]) ∧ DlIn w.heap.size w' v oneD ∧ w'.ownsRow w.heap.size 40 2 u 1 (okVs 1)) ∧ Below w.heap.size w w' :=
    load_lines 40 1000 20 oneL oneD w one_reckoned hv
  clear hv
  go_enter Tryz.func5, Tryz.ntmps5
  go_wp2_with fail
  refine HL.mono ?_
  rintro e w1 ⟨⟨v, u, rfl, hD, hU⟩, hb1⟩
  clear HL
  obtain ⟨p, cap, rfl, _⟩ := hD.form
  obtain ⟨q, c, rfl⟩ := ownsRow_form hU
  obtain ⟨g, rfl, hg0, hg1, hg⟩ := ownsRow_cells hU (by decide)
  have hc0 : w1.cell? ⟨g, 0, none⟩ = some (.int .i64 0) := hg 0 _ rfl
  have HN : Calls Tryz.prog 7 #[.slice p 1 cap, .agg #[.int .i64 18, .int .i64 0, .slice none 0 0]] w1 fun e w' => e = .returned (.tuple #[.int .i64 1, .bool true]) ∧ Below w1.heap.size w1 w' :=
    number_decls 60 400 (by decide) oneD p none cap 0 1 18 0 1 .nil w1 rfl hD.at (fun x hx => by
      have : x = ⟨[111, 110, 101], (14, 0, .nil), (16, 0, (.node 0 0 (15, 0) .nil .nil))⟩ := by simpa [oneD] using hx
      subst this
      exact ⟨by decide, by decide⟩) (by decide) (Nat.le_refl _) (SlO.nil _ _ _) (by decide) one_counted
  have HB := (show Hid _ from hb1)
  clear hD hU hg hb1
  rw [show (oneD.length) = 1 from rfl]
  go_wp2_with fail
  refine HN.mono ?_
  rintro e w2 ⟨rfl, hb2⟩
  have hc2 := below_some hb2 _ _ _ hc0
  have HF : Hid (Below w.heap.size w w2) := HB.out.trans (hb2.mono HB.out.size)
  clear HN HB hb2 hc0
  go_wp2_with fail
  refine bodyPost_ret (v := .bool true) (by simp [results, Tryz.results5, go_sem]) rfl ⟨rfl, HF.out⟩
end Go.Proofs.YthfjmcomhccbaaaGreatDoor

namespace Go.Proofs.YthfjmcomhccbaaaGreatDoor
open Go.RowKit Tmx Evx
set_option maxRecDepth 60000

theorem sums_any (w : World) : Calls Tryz.prog 12 #[] w fun e w' => e = .returned (.string ⟨(joinR sumsL).toArray⟩) ∧ w' = w := by
  go_enter Tryz.func12, Tryz.ntmps12
  go_wp2_with fail
  refine bodyPost_ret (v := .string ⟨(joinR sumsL).toArray⟩) ?_ rfl ⟨rfl, rfl⟩
  kernel_rfl

/-- What is loaded: four declarations. -/
def LoadedP (w : World) (e : Ending) (w' : World) : Prop := ∃ p cap, e = .returned (.tuple #[.slice p 4 cap, .bool true]) ∧ DlIn w.heap.size w' (.slice p 4 cap) sumsD ∧ 4 ≤ cap ∧ Below w.heap.size w w'

set_option maxHeartbeats 4000000 in
theorem loaded_any (w : World) (hv : Vs w.heap.size w) : Calls Tryz.prog 6 #[] w (LoadedP w) := by
  have HS := sums_any w
  have HL : Calls Tryz.prog 11 #[.string ⟨(joinR sumsL).toArray⟩] w fun e w' => (∃ v u, e = .returned (.tuple #[v, u]) ∧ DlIn w.heap.size w' v sumsD ∧ w'.ownsRow w.heap.size 40 2 u 4 (okVs 4)) ∧ Below w.heap.size w w' :=
    load_lines 40 1000 20 sumsL sumsD w sums_reckoned hv
  obtain ⟨s, hs⟩ : ∃ s : ByteArray, ⟨(joinR sumsL).toArray⟩ = s := ⟨_, rfl⟩
  rw [hs] at HS HL
  clear hv hs
  go_enter Tryz.func6, Tryz.ntmps6
  go_wp2_with fail
  refine HS.mono ?_
  rintro e wq ⟨rfl, rfl⟩
  go_wp2_with fail
  refine HL.mono ?_
  rintro e w1 ⟨⟨v, u, rfl, hD, hU⟩, hb1⟩
  clear HL HS
  obtain ⟨p, cap, rfl, hcap⟩ := hD.form
  obtain ⟨q, c, rfl⟩ := ownsRow_form hU
  obtain ⟨g, rfl, hg0, hg1, hg⟩ := ownsRow_cells hU (by decide)
  have HG : Hid (∀ j, j < 4 → w1.cell? ⟨g, j * 2, none⟩ = some (.int .i64 0) ∧ w1.cell? ⟨g, j * 2 + 1, none⟩ = some (.int .i64 0)) := fun j hj => by
    have h : ∀ i, i < 8 → (okVs 4)[i]? = some (.int .i64 0) := fun i hi => by
      match i, hi with
      | 0, _ => rfl
      | 1, _ => rfl
      | 2, _ => rfl
      | 3, _ => rfl
      | 4, _ => rfl
      | 5, _ => rfl
      | 6, _ => rfl
      | 7, _ => rfl
    exact ⟨hg _ _ (h _ (by omega)), hg _ _ (h _ (by omega))⟩
  rw [show (sumsD.length) = 4 from rfl] at hD hcap ⊢
  have HB := (show Hid _ from And.intro hD (And.intro hcap hb1))
  clear hD hU hg hb1 hcap
  go_wp2_with fail
  go_loopg [4, 17] 4 (fun gg ok i wr => ∃ j : Nat, gg = 4 - j ∧ j ≤ 4 ∧ i = .int .i64 (j : Int) ∧ ok = .bool true ∧ Below w1.heap.size w1 wr)
  case atStart => exact ⟨0, rfl, Nat.zero_le _, rfl, rfl, Below.refl _ _⟩
  case round =>
    obtain ⟨j, rfl, hj, rfl, rfl, hb⟩ := hrel
    by_cases hlt : j < 4
    · obtain ⟨e0, e1⟩ := HG.out j hlt
      have f0 := below_some hb _ _ _ e0
      have f1 := below_some hb _ _ _ e1
      obtain ⟨x0, x1, _, _⟩ := (Blk.new wr #[.int .i64 0, .int .i64 0] 40).two
      clear e0 e1
      go_wp2_with fail
      go_roundg (4 - (j + 1))
      case measure => omega
      case rel => exact ⟨j + 1, rfl, by omega, by push_cast; rfl, rfl, hb.alloc (hb.size) _⟩
    · obtain rfl : j = 4 := by omega
      go_wp2_with fail
      refine bodyPost_ret (v := .tuple #[.slice p 4 cap, .bool true]) (by simp [results, Tryz.results6, go_sem]) rfl ⟨p, cap, rfl, ?_, HB.out.2.1, HB.out.2.2.trans (hb.mono HB.out.2.2.size)⟩
      exact HB.out.1.keep hb.size fun b h1 h2 => hb.block b h2
end Go.Proofs.YthfjmcomhccbaaaGreatDoor

namespace Go.Proofs.YthfjmcomhccbaaaGreatDoor
open Go.RowKit Tmx Evx
set_option maxRecDepth 60000

/-- All pairs of numbers below n. -/
def allP (n : Nat) (P : Nat → Nat → Bool) : Bool := (List.range n).all fun a => (List.range n).all fun b => P a b
theorem sums_counted : allP 13 (fun a b => decide (numD 60 400 sumsD (appX 0 [a, b]) = some ((a : Int) + (b : Int))) && decide (numD 60 400 sumsD (appX 1 [a, b]) = some ((a : Int) * (b : Int)))) = true := by kernel_rfl
theorem sums_at {a b : Nat} (ha : a ≤ 12) (hb : b ≤ 12) : numD 60 400 sumsD (appX 0 [a, b]) = some ((a : Int) + (b : Int)) ∧ numD 60 400 sumsD (appX 1 [a, b]) = some ((a : Int) * (b : Int)) := by
  have h := sums_counted
  rw [allP, List.all_eq_true] at h
  have h1 := List.all_eq_true.1 (h a (List.mem_range.2 (by omega))) b (List.mem_range.2 (by omega))
  rw [Bool.and_eq_true, decide_eq_true_eq, decide_eq_true_eq] at h1
  exact h1
theorem sums_kinds : ∀ x, x ∈ sumsD → x.T.1 ≠ 1 ∧ x.B.1 ≠ 1 := by
  have h : (sumsD.all fun x => !(x.T.1 == 1) && !(x.B.1 == 1)) = true := by kernel_rfl
  intro x hx
  have := List.all_eq_true.1 h x hx
  simpa using this

end Go.Proofs.YthfjmcomhccbaaaGreatDoor

namespace Go.Proofs.YthfjmcomhccbaaaGreatDoor
open Go.RowKit Tmx Evx
set_option maxRecDepth 60000

/-- Two numbers in a row. -/
theorem two_nums (w : World) (a b : Nat) (ha : a ≤ 12) (hb : b ≤ 12) : ∀ (i n : Nat), [a, b][i]? = some n → n ≤ 1000000 ∧ (w.alloc (.cells #[.int .i64 (a : Int), .int .i64 (b : Int)] 3)).cell? ⟨w.heap.size, i, none⟩ = some (.int .i64 (n : Int)) := by
  intro i n h
  have hN := Blk.new w #[.int .i64 (a : Int), .int .i64 (b : Int)] 3
  rw [hN.cell]
  match i, h with
  | 0, h =>
    obtain rfl : a = n := Option.some.inj h
    exact ⟨by omega, rfl⟩
  | 1, h =>
    obtain rfl : b = n := Option.some.inj h
    exact ⟨by omega, rfl⟩

set_option maxHeartbeats 8000000 in
theorem sums_in (a b : Nat) (ha : a ≤ 12) (hb : b ≤ 12) (w : World) (hv : Vs w.heap.size w) :
    Calls Tryz.prog 3 #[.int .i64 (a : Int), .int .i64 (b : Int)] w fun e w' => e = .returned (.bool true) ∧ Below w.heap.size w w' := by
  have HA := alive_any w hv
  obtain ⟨n0, n1⟩ := sums_at ha hb
  have HN := (show Hid _ from And.intro n0 (And.intro n1 (And.intro hv (And.intro ha hb))))
  obtain ⟨f0, hf0⟩ : ∃ f, appX 0 [a, b] = (5, 0, f) := ⟨_, rfl⟩
  obtain ⟨f1, hf1⟩ : ∃ f, appX 1 [a, b] = (5, 0, f) := ⟨_, rfl⟩
  have HF := (show Hid _ from And.intro hf0 hf1)
  have a0 : (0 : Int) ≤ (a : Int) := by omega
  have a1 : (a : Int) ≤ 12 := by omega
  have b0 : (0 : Int) ≤ (b : Int) := by omega
  have b1 : (b : Int) ≤ 12 := by omega
  have m0 : (0 : Int) ≤ (a : Int) * (b : Int) := Int.mul_nonneg a0 b0
  have m1 : (a : Int) * (b : Int) ≤ 144 := by
    have : a * b ≤ 12 * 12 := Nat.mul_le_mul ha hb
    have h2 : ((a * b : Nat) : Int) ≤ 144 := by omega
    rw [Int.natCast_mul] at h2
    exact h2
  clear n0 n1 hv ha hb hf0 hf1
  go_enter Tryz.func3, Tryz.ntmps3
  go_wp2_with fail
  refine HA.mono ?_
  rintro e w1 ⟨rfl, hb1⟩
  have HL := loaded_any w1 (HN.out.2.2.1.up hb1)
  have HB := (show Hid _ from hb1)
  clear hb1 HA
  go_wp2_with fail
  refine HL.mono ?_
  rintro e w2 ⟨p, cap, rfl, hD, hcap, hb2⟩
  have HD := (show Hid _ from And.intro hD.at (And.intro hcap (HB.out.trans (hb2.mono HB.out.size))))
  clear hD hcap hb2 HL HB
  have HP : Hid (Calls Tryz.prog 8 #[.int .i64 0, .slice (some ⟨w2.heap.size, 0, none⟩) 2 2] (w2.alloc (.cells #[.int .i64 (a : Int), .int .i64 (b : Int)] 3)) fun e w' => (∃ v, e = .returned v ∧ TmC (w2.alloc (.cells #[.int .i64 (a : Int), .int .i64 (b : Int)] 3)).heap.size w' v (5, 0, f0)) ∧ Below (w2.alloc (.cells #[.int .i64 (a : Int), .int .i64 (b : Int)] 3)).heap.size (w2.alloc (.cells #[.int .i64 (a : Int), .int .i64 (b : Int)] 3)) w') :=
    by rw [← HF.out.1]; exact app_any 0 [a, b] w2.heap.size 2 _ (by simp) (two_nums w2 a b HN.out.2.2.2.1 HN.out.2.2.2.2) (by simp)
  go_wp2_with fail
  refine HP.out.mono ?_
  rintro e w3 ⟨⟨v, hv, q, ⟨c, hc⟩, hve, hsl⟩, hb3⟩
  dsimp only at hc hve hsl
  subst hve
  subst hv
  have hB3 : Below w2.heap.size w2 w3 := ((Below.refl _ _).alloc (Nat.le_refl _) _).trans (hb3.mono (by simp))
  have HM1 := number_decls 60 400 (by decide) sumsD p q cap c 4 5 0 ((a : Int) + (b : Int)) f0 w3 rfl (HD.out.1.below hB3) sums_kinds (by decide) hc hsl.lt (by decide) (by have := HN.out.1; rw [HF.out.1] at this; exact this)
  have HB3 := (show Hid _ from And.intro (HD.out.1.below hB3) (HD.out.2.2.trans (hB3.mono HD.out.2.2.size)))
  clear hB3 hb3 hsl hc HD HP
  go_wp2_with fail
  refine HM1.mono ?_
  rintro e w4 ⟨rfl, hb4⟩
  have HD4 := (show Hid _ from And.intro (HB3.out.1.below hb4) (HB3.out.2.trans (hb4.mono HB3.out.2.size)))
  clear hb4 HB3 HM1
  have HP : Hid (Calls Tryz.prog 8 #[.int .i64 1, .slice (some ⟨w4.heap.size, 0, none⟩) 2 2] (w4.alloc (.cells #[.int .i64 (a : Int), .int .i64 (b : Int)] 3)) fun e w' => (∃ v, e = .returned v ∧ TmC (w4.alloc (.cells #[.int .i64 (a : Int), .int .i64 (b : Int)] 3)).heap.size w' v (5, 0, f1)) ∧ Below (w4.alloc (.cells #[.int .i64 (a : Int), .int .i64 (b : Int)] 3)).heap.size (w4.alloc (.cells #[.int .i64 (a : Int), .int .i64 (b : Int)] 3)) w') :=
    by rw [← HF.out.2]; exact app_any 1 [a, b] w4.heap.size 2 _ (by simp) (two_nums w4 a b HN.out.2.2.2.1 HN.out.2.2.2.2) (by simp)
  go_wp2_with fail
  refine HP.out.mono ?_
  rintro e w5 ⟨⟨v, hv, q5, ⟨c5, hc⟩, hve, hsl⟩, hb5⟩
  dsimp only at hc hve hsl
  subst hve
  subst hv
  have hB5 : Below w4.heap.size w4 w5 := ((Below.refl _ _).alloc (Nat.le_refl _) _).trans (hb5.mono (by simp))
  have HM1 := number_decls 60 400 (by decide) sumsD p q5 cap c5 4 5 0 ((a : Int) * (b : Int)) f1 w5 rfl (HD4.out.1.below hB5) sums_kinds (by decide) hc hsl.lt (by decide) (by have := HN.out.2.1; rw [HF.out.2] at this; exact this)
  have HB5 := (show Hid _ from HD4.out.2.trans (hB5.mono HD4.out.2.size))
  clear hB5 hb5 hsl hc HD4 HP
  go_wp2_with fail
  refine HM1.mono ?_
  rintro e w6 ⟨rfl, hb6⟩
  have HE := (show Hid _ from HB5.out.trans (hb6.mono HB5.out.size))
  clear hb6 HB5 HM1
  go_wp2_with fail
  refine bodyPost_ret (v := .bool true) (by simp [results, Tryz.results3, go_sem]) rfl ⟨rfl, HE.out⟩

/-- Where a number is too great, or below nought. -/
theorem sums_out (a b : Int) (h : ¬ (0 ≤ a ∧ a ≤ 12 ∧ 0 ≤ b ∧ b ≤ 12)) (w : World) (hv : Vs w.heap.size w) :
    Calls Tryz.prog 3 #[.int .i64 a, .int .i64 b] w fun e w' => e = .returned (.bool true) ∧ Below w.heap.size w w' := by
  have HA := alive_any w hv
  have key : ((decide (a < 0) || decide (12 < a)) || (decide (b < 0) || decide (12 < b))) = true := by
    simp only [Bool.or_eq_true, decide_eq_true_eq]
    omega
  clear hv
  by_cases c0 : a < 0
  all_goals by_cases c1 : 12 < a
  all_goals by_cases c2 : b < 0
  all_goals by_cases c3 : 12 < b
  all_goals first
    | (exfalso; omega)
    | (clear key h
       go_enter Tryz.func3, Tryz.ntmps3
       go_wp2_with fail
       refine HA.mono ?_
       rintro e w1 ⟨rfl, hb1⟩
       have HB := (show Hid _ from hb1)
       clear hb1 HA
       go_wp2_with fail
       refine bodyPost_ret (v := .bool true) (by simp [results, Tryz.results3, go_sem]) rfl ⟨rfl, HB.out⟩)

theorem topSums_any (a b : Int) (w : World) (hv : Vs w.heap.size w) : Calls Tryz.prog 3 #[.int .i64 a, .int .i64 b] w fun e w' => e = .returned (.bool true) ∧ Below w.heap.size w w' := by
  by_cases h : 0 ≤ a ∧ a ≤ 12 ∧ 0 ≤ b ∧ b ≤ 12
  · obtain ⟨m, rfl⟩ := Int.eq_ofNat_of_zero_le h.1
    obtain ⟨n, rfl⟩ := Int.eq_ofNat_of_zero_le h.2.2.1
    exact sums_in m n (by omega) (by omega) w hv
  · exact sums_out a b h w hv
end Go.Proofs.YthfjmcomhccbaaaGreatDoor
