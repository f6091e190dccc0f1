/-
  The statements' own: alive (a book of one declaration, and its number).
-/
/-
  The statements' own: loaded (the book of sums, all taken).
-/
/-
  The numbers that the statement TopSums asks, reckoned.
-/
/-
  The statement TopSums: the walk.
-/
/-
  Bytes as they lie in memory: a part of someone's list, and a list of one's own that is appended to.
-/
/-
  Appending bytes to a list of bytes of one's own, and a term to a list of terms.
-/
import Derived.Test.YthfjmcomhccbaaaGreatDoorBK12m
import Derived.ProofKit
import Derived.Test.YthfjmcomhccbaaaGreatDoorPlain2m
import Derived.Test.YthfjmcomhccbaaaGreatDoorMem2m
import Derived.Deep.AppendLies
import Derived.Deep.AppendSrc
import Derived.Laws.IdiomStrings
import Derived.Laws.BytesArg
import Derived.Test.YthfjmcomhccbaaaGreatDoorProg
import Derived.WalkKit
import Derived.WalkSpells
import Derived.WalkLawsBesides
namespace Go.Proofs.YthfjmcomhccbaaaGreatDoor
open Go.RowKit Tmx Evx
set_option maxRecDepth 60000

def bodies (l : List Dcl) : List (Int × Int × F) := l.map (·.B)
/-- The number that a term comes to, with declarations. -/
def numD (s m : Nat) (l : List Dcl) (x : X3) : Option Int := numV s m (later ⟨0, 0, bodies l⟩ x.1 x.2.1 x.2.2 [])
theorem one_counted : numD 60 400 oneD (18, 0, .nil) = some 1 := by kernel_rfl
/-- Where the row of verdicts lies. -/
theorem ownsRow_cells {w : World} {lo sz n : Nat} {e : TypeId} {p : Option Addr} {c : Nat} {xs : List Value} (h : w.ownsRow lo e sz (.slice p n c) n xs) (h0 : 0 < n) :
    ∃ g, p = some ⟨g, 0, none⟩ ∧ lo ≤ g ∧ g < w.heap.size ∧ ∀ (i : Nat) (x : Value), xs[i]? = some x → w.cell? ⟨g, i, none⟩ = some x := by
  have h' := h
  obtain ⟨h1, h2⟩ := h'
  rcases h2 with ⟨_, rfl⟩ | ⟨g, cap, cur, e1, hb, hh, _⟩
  · omega
  · simp only [Value.slice.injEq] at e1
    obtain ⟨rfl, _, _⟩ := e1
    obtain ⟨hlt, _⟩ := Array.getElem?_eq_some_iff.1 hh
    refine ⟨g, rfl, hb, hlt, fun i x hx => ?_⟩
    rw [World.ownsRow.cellAt h i (by obtain ⟨hl, _⟩ := List.getElem?_eq_some_iff.1 hx; omega)]
    exact hx

/-- Number, of declarations that were taken. -/
theorem number_decls (s m : Nat) (hm : m ≤ 1000000) (l : List Dcl) (p q : Option Addr) (cap c nn : Nat) (k n r : Int) (f : F) (w : World) (hl : l.length = nn) (hd : DlAt w p l) (hn : ∀ x, x ∈ l → x.T.1 ≠ 1 ∧ x.B.1 ≠ 1) (hnn : nn ≤ 1000) (hc : len f ≤ c) (hq : SlO (old w) w q f) (hk : k ≠ 1)
    (hr : numD s m l (k, n, f) = some r) :
    Calls Tryz.prog 7 #[.slice p nn cap, .agg #[.int .i64 k, .int .i64 n, .slice q (len f) c]] w fun e w' => e = .returned (.tuple #[.int .i64 r, .bool true]) ∧ Below w.heap.size w w' := by
  subst hl
  have h := hd.ds cap hn hnn
  have := numberTop_any s m hm p q cap c (bodies l) k n r f w h.defs (by rw [bodies, List.length_map]; exact hnn) hc hq hk hr
  rw [show (bodies l).length = l.length from List.length_map _] at this
  exact this

set_option maxHeartbeats 4000000 in
theorem alive_any (w : World) (hv : Vs w.heap.size w) :
    Calls Tryz.prog 5 #[] w fun e w' => e = .returned (.bool true) ∧ Below w.heap.size w w' := by
  have HL : Calls Tryz.prog 11 #[.string ⟨#[40, 100, 101, 102, 32, 111, 110, 101, 32, 110, 97, 116, 32, 40, 115, 117, 99, 32, 122, 101, 114, 111, 41, 41]⟩] w fun e w' => (∃ v u, e = .returned (.tuple #[v, u]) ∧ DlIn w.heap.size w' v oneD ∧ w'.ownsRow w.heap.size 40 2 u 1 (okVs 1)) ∧ Below w.heap.size w w' :=
    load_lines 40 1000 20 oneL oneD w one_reckoned hv
  clear hv
  go_enter Tryz.func5, Tryz.ntmps5
  go_wp2_with fail
  refine HL.mono ?_
  rintro e w1 ⟨⟨v, u, rfl, hD, hU⟩, hb1⟩
  clear HL
  obtain ⟨p, cap, rfl, _⟩ := hD.form
  obtain ⟨q, c, rfl⟩ := ownsRow_form hU
  obtain ⟨g, rfl, hg0, hg1, hg⟩ := ownsRow_cells hU (by decide)
  have hc0 : w1.cell? ⟨g, 0, none⟩ = some (.int .i64 0) := hg 0 _ rfl
  have HN : Calls Tryz.prog 7 #[.slice p 1 cap, .agg #[.int .i64 18, .int .i64 0, .slice none 0 0]] w1 fun e w' => e = .returned (.tuple #[.int .i64 1, .bool true]) ∧ Below w1.heap.size w1 w' :=
    number_decls 60 400 (by decide) oneD p none cap 0 1 18 0 1 .nil w1 rfl hD.at (fun x hx => by
      have : x = ⟨[111, 110, 101], (14, 0, .nil), (16, 0, (.node 0 0 (15, 0) .nil .nil))⟩ := by simpa [oneD] using hx
      subst this
      exact ⟨by decide, by decide⟩) (by decide) (Nat.le_refl _) (SlO.nil _ _ _) (by decide) one_counted
  have HB := (show Hid _ from hb1)
  clear hD hU hg hb1
  rw [show (oneD.length) = 1 from rfl]
  go_wp2_with fail
  refine HN.mono ?_
  rintro e w2 ⟨rfl, hb2⟩
  have hc2 := below_some hb2 _ _ _ hc0
  have HF : Hid (Below w.heap.size w w2) := HB.out.trans (hb2.mono HB.out.size)
  clear HN HB hb2 hc0
  go_wp2_with fail
  refine bodyPost_ret (v := .bool true) (by simp [results, Tryz.results5, go_sem]) rfl ⟨rfl, HF.out⟩
end Go.Proofs.YthfjmcomhccbaaaGreatDoor

namespace Go.Proofs.YthfjmcomhccbaaaGreatDoor
open Go.RowKit Tmx Evx
set_option maxRecDepth 60000

theorem sums_any (w : World) : Calls Tryz.prog 12 #[] w fun e w' => e = .returned (.string ⟨(joinR sumsL).toArray⟩) ∧ w' = w := by
  go_enter Tryz.func12, Tryz.ntmps12
  go_wp2_with fail
  refine bodyPost_ret (v := .string ⟨(joinR sumsL).toArray⟩) ?_ rfl ⟨rfl, rfl⟩
  kernel_rfl

/-- What is loaded: four declarations. -/
def LoadedP (w : World) (e : Ending) (w' : World) : Prop := ∃ p cap, e = .returned (.tuple #[.slice p 4 cap, .bool true]) ∧ DlIn w.heap.size w' (.slice p 4 cap) sumsD ∧ 4 ≤ cap ∧ Below w.heap.size w w'

set_option maxHeartbeats 4000000 in
theorem loaded_any (w : World) (hv : Vs w.heap.size w) : Calls Tryz.prog 6 #[] w (LoadedP w) := by
  have HS := sums_any w
  have HL : Calls Tryz.prog 11 #[.string ⟨(joinR sumsL).toArray⟩] w fun e w' => (∃ v u, e = .returned (.tuple #[v, u]) ∧ DlIn w.heap.size w' v sumsD ∧ w'.ownsRow w.heap.size 40 2 u 4 (okVs 4)) ∧ Below w.heap.size w w' :=
    load_lines 40 1000 20 sumsL sumsD w sums_reckoned hv
  obtain ⟨s, hs⟩ : ∃ s : ByteArray, ⟨(joinR sumsL).toArray⟩ = s := ⟨_, rfl⟩
  rw [hs] at HS HL
  clear hv hs
  go_enter Tryz.func6, Tryz.ntmps6
  go_wp2_with fail
  refine HS.mono ?_
  rintro e wq ⟨rfl, rfl⟩
  go_wp2_with fail
  refine HL.mono ?_
  rintro e w1 ⟨⟨v, u, rfl, hD, hU⟩, hb1⟩
  clear HL HS
  obtain ⟨p, cap, rfl, hcap⟩ := hD.form
  obtain ⟨q, c, rfl⟩ := ownsRow_form hU
  obtain ⟨g, rfl, hg0, hg1, hg⟩ := ownsRow_cells hU (by decide)
  have HG : Hid (∀ j, j < 4 → w1.cell? ⟨g, j * 2, none⟩ = some (.int .i64 0) ∧ w1.cell? ⟨g, j * 2 + 1, none⟩ = some (.int .i64 0)) := fun j hj => by
    have h : ∀ i, i < 8 → (okVs 4)[i]? = some (.int .i64 0) := fun i hi => by
      match i, hi with
      | 0, _ => rfl
      | 1, _ => rfl
      | 2, _ => rfl
      | 3, _ => rfl
      | 4, _ => rfl
      | 5, _ => rfl
      | 6, _ => rfl
      | 7, _ => rfl
    exact ⟨hg _ _ (h _ (by omega)), hg _ _ (h _ (by omega))⟩
  rw [show (sumsD.length) = 4 from rfl] at hD hcap ⊢
  have HB := (show Hid _ from And.intro hD (And.intro hcap hb1))
  clear hD hU hg hb1 hcap
  go_wp2_with fail
  go_loopg [4, 17] 4 (fun gg ok i wr => ∃ j : Nat, gg = 4 - j ∧ j ≤ 4 ∧ i = .int .i64 (j : Int) ∧ ok = .bool true ∧ Below w1.heap.size w1 wr)
  case atStart => exact ⟨0, rfl, Nat.zero_le _, rfl, rfl, Below.refl _ _⟩
  case round =>
    obtain ⟨j, rfl, hj, rfl, rfl, hb⟩ := hrel
    by_cases hlt : j < 4
    · obtain ⟨e0, e1⟩ := HG.out j hlt
      have f0 := below_some hb _ _ _ e0
      have f1 := below_some hb _ _ _ e1
      obtain ⟨x0, x1, _, _⟩ := (Blk.new wr #[.int .i64 0, .int .i64 0] 40).two
      clear e0 e1
      go_wp2_with fail
      go_roundg (4 - (j + 1))
      case measure => omega
      case rel => exact ⟨j + 1, rfl, by omega, by push_cast; rfl, rfl, hb.alloc (hb.size) _⟩
    · obtain rfl : j = 4 := by omega
      go_wp2_with fail
      refine bodyPost_ret (v := .tuple #[.slice p 4 cap, .bool true]) (by simp [results, Tryz.results6, go_sem]) rfl ⟨p, cap, rfl, ?_, HB.out.2.1, HB.out.2.2.trans (hb.mono HB.out.2.2.size)⟩
      exact HB.out.1.keep hb.size fun b h1 h2 => hb.block b h2
end Go.Proofs.YthfjmcomhccbaaaGreatDoor

namespace Go.Proofs.YthfjmcomhccbaaaGreatDoor
open Go.RowKit Tmx Evx
set_option maxRecDepth 60000

/-- All pairs of numbers below n. -/
def allP (n : Nat) (P : Nat → Nat → Bool) : Bool := (List.range n).all fun a => (List.range n).all fun b => P a b
theorem sums_counted : allP 13 (fun a b => decide (numD 60 400 sumsD (appX 0 [a, b]) = some ((a : Int) + (b : Int))) && decide (numD 60 400 sumsD (appX 1 [a, b]) = some ((a : Int) * (b : Int)))) = true := by kernel_rfl
theorem sums_at {a b : Nat} (ha : a ≤ 12) (hb : b ≤ 12) : numD 60 400 sumsD (appX 0 [a, b]) = some ((a : Int) + (b : Int)) ∧ numD 60 400 sumsD (appX 1 [a, b]) = some ((a : Int) * (b : Int)) := by
  have h := sums_counted
  rw [allP, List.all_eq_true] at h
  have h1 := List.all_eq_true.1 (h a (List.mem_range.2 (by omega))) b (List.mem_range.2 (by omega))
  rw [Bool.and_eq_true, decide_eq_true_eq, decide_eq_true_eq] at h1
  exact h1
theorem sums_kinds : ∀ x, x ∈ sumsD → x.T.1 ≠ 1 ∧ x.B.1 ≠ 1 := by
  have h : (sumsD.all fun x => !(x.T.1 == 1) && !(x.B.1 == 1)) = true := by kernel_rfl
  intro x hx
  have := List.all_eq_true.1 h x hx
  simpa using this

end Go.Proofs.YthfjmcomhccbaaaGreatDoor

namespace Go.Proofs.YthfjmcomhccbaaaGreatDoor
open Go.RowKit Tmx Evx
set_option maxRecDepth 60000

/-- Two numbers in a row. -/
theorem two_nums (w : World) (a b : Nat) (ha : a ≤ 12) (hb : b ≤ 12) : ∀ (i n : Nat), [a, b][i]? = some n → n ≤ 1000000 ∧ (w.alloc (.cells #[.int .i64 (a : Int), .int .i64 (b : Int)] 3)).cell? ⟨w.heap.size, i, none⟩ = some (.int .i64 (n : Int)) := by
  intro i n h
  have hN := Blk.new w #[.int .i64 (a : Int), .int .i64 (b : Int)] 3
  rw [hN.cell]
  match i, h with
  | 0, h =>
    obtain rfl : a = n := Option.some.inj h
    exact ⟨by omega, rfl⟩
  | 1, h =>
    obtain rfl : b = n := Option.some.inj h
    exact ⟨by omega, rfl⟩

set_option maxHeartbeats 8000000 in
theorem sums_in (a b : Nat) (ha : a ≤ 12) (hb : b ≤ 12) (w : World) (hv : Vs w.heap.size w) :
    Calls Tryz.prog 3 #[.int .i64 (a : Int), .int .i64 (b : Int)] w fun e w' => e = .returned (.bool true) ∧ Below w.heap.size w w' := by
  have HA := alive_any w hv
  obtain ⟨n0, n1⟩ := sums_at ha hb
  have HN := (show Hid _ from And.intro n0 (And.intro n1 (And.intro hv (And.intro ha hb))))
  obtain ⟨f0, hf0⟩ : ∃ f, appX 0 [a, b] = (5, 0, f) := ⟨_, rfl⟩
  obtain ⟨f1, hf1⟩ : ∃ f, appX 1 [a, b] = (5, 0, f) := ⟨_, rfl⟩
  have HF := (show Hid _ from And.intro hf0 hf1)
  have a0 : (0 : Int) ≤ (a : Int) := by omega
  have a1 : (a : Int) ≤ 12 := by omega
  have b0 : (0 : Int) ≤ (b : Int) := by omega
  have b1 : (b : Int) ≤ 12 := by omega
  have m0 : (0 : Int) ≤ (a : Int) * (b : Int) := Int.mul_nonneg a0 b0
  have m1 : (a : Int) * (b : Int) ≤ 144 := by
    have : a * b ≤ 12 * 12 := Nat.mul_le_mul ha hb
    have h2 : ((a * b : Nat) : Int) ≤ 144 := by omega
    rw [Int.natCast_mul] at h2
    exact h2
  clear n0 n1 hv ha hb hf0 hf1
  go_enter Tryz.func3, Tryz.ntmps3
  go_wp2_with fail
  refine HA.mono ?_
  rintro e w1 ⟨rfl, hb1⟩
  have HL := loaded_any w1 (HN.out.2.2.1.up hb1)
  have HB := (show Hid _ from hb1)
  clear hb1 HA
  go_wp2_with fail
  refine HL.mono ?_
  rintro e w2 ⟨p, cap, rfl, hD, hcap, hb2⟩
  have HD := (show Hid _ from And.intro hD.at (And.intro hcap (HB.out.trans (hb2.mono HB.out.size))))
  clear hD hcap hb2 HL HB
  have HP : Hid (Calls Tryz.prog 8 #[.int .i64 0, .slice (some ⟨w2.heap.size, 0, none⟩) 2 2] (w2.alloc (.cells #[.int .i64 (a : Int), .int .i64 (b : Int)] 3)) fun e w' => (∃ v, e = .returned v ∧ TmC (w2.alloc (.cells #[.int .i64 (a : Int), .int .i64 (b : Int)] 3)).heap.size w' v (5, 0, f0)) ∧ Below (w2.alloc (.cells #[.int .i64 (a : Int), .int .i64 (b : Int)] 3)).heap.size (w2.alloc (.cells #[.int .i64 (a : Int), .int .i64 (b : Int)] 3)) w') :=
    by rw [← HF.out.1]; exact app_any 0 [a, b] w2.heap.size 2 _ (by simp) (two_nums w2 a b HN.out.2.2.2.1 HN.out.2.2.2.2) (by simp)
  go_wp2_with fail
  refine HP.out.mono ?_
  rintro e w3 ⟨⟨v, hv, q, ⟨c, hc⟩, hve, hsl⟩, hb3⟩
  dsimp only at hc hve hsl
  subst hve
  subst hv
  have hB3 : Below w2.heap.size w2 w3 := ((Below.refl _ _).alloc (Nat.le_refl _) _).trans (hb3.mono (by simp))
  have HM1 := number_decls 60 400 (by decide) sumsD p q cap c 4 5 0 ((a : Int) + (b : Int)) f0 w3 rfl (HD.out.1.below hB3) sums_kinds (by decide) hc hsl.lt (by decide) (by have := HN.out.1; rw [HF.out.1] at this; exact this)
  have HB3 := (show Hid _ from And.intro (HD.out.1.below hB3) (HD.out.2.2.trans (hB3.mono HD.out.2.2.size)))
  clear hB3 hb3 hsl hc HD HP
  go_wp2_with fail
  refine HM1.mono ?_
  rintro e w4 ⟨rfl, hb4⟩
  have HD4 := (show Hid _ from And.intro (HB3.out.1.below hb4) (HB3.out.2.trans (hb4.mono HB3.out.2.size)))
  clear hb4 HB3 HM1
  have HP : Hid (Calls Tryz.prog 8 #[.int .i64 1, .slice (some ⟨w4.heap.size, 0, none⟩) 2 2] (w4.alloc (.cells #[.int .i64 (a : Int), .int .i64 (b : Int)] 3)) fun e w' => (∃ v, e = .returned v ∧ TmC (w4.alloc (.cells #[.int .i64 (a : Int), .int .i64 (b : Int)] 3)).heap.size w' v (5, 0, f1)) ∧ Below (w4.alloc (.cells #[.int .i64 (a : Int), .int .i64 (b : Int)] 3)).heap.size (w4.alloc (.cells #[.int .i64 (a : Int), .int .i64 (b : Int)] 3)) w') :=
    by rw [← HF.out.2]; exact app_any 1 [a, b] w4.heap.size 2 _ (by simp) (two_nums w4 a b HN.out.2.2.2.1 HN.out.2.2.2.2) (by simp)
  go_wp2_with fail
  refine HP.out.mono ?_
  rintro e w5 ⟨⟨v, hv, q5, ⟨c5, hc⟩, hve, hsl⟩, hb5⟩
  dsimp only at hc hve hsl
  subst hve
  subst hv
  have hB5 : Below w4.heap.size w4 w5 := ((Below.refl _ _).alloc (Nat.le_refl _) _).trans (hb5.mono (by simp))
  have HM1 := number_decls 60 400 (by decide) sumsD p q5 cap c5 4 5 0 ((a : Int) * (b : Int)) f1 w5 rfl (HD4.out.1.below hB5) sums_kinds (by decide) hc hsl.lt (by decide) (by have := HN.out.2.1; rw [HF.out.2] at this; exact this)
  have HB5 := (show Hid _ from HD4.out.2.trans (hB5.mono HD4.out.2.size))
  clear hB5 hb5 hsl hc HD4 HP
  go_wp2_with fail
  refine HM1.mono ?_
  rintro e w6 ⟨rfl, hb6⟩
  have HE := (show Hid _ from HB5.out.trans (hb6.mono HB5.out.size))
  clear hb6 HB5 HM1
  go_wp2_with fail
  refine bodyPost_ret (v := .bool true) (by simp [results, Tryz.results3, go_sem]) rfl ⟨rfl, HE.out⟩

/-- Where a number is too great, or below nought. -/
theorem sums_out (a b : Int) (h : ¬ (0 ≤ a ∧ a ≤ 12 ∧ 0 ≤ b ∧ b ≤ 12)) (w : World) (hv : Vs w.heap.size w) :
    Calls Tryz.prog 3 #[.int .i64 a, .int .i64 b] w fun e w' => e = .returned (.bool true) ∧ Below w.heap.size w w' := by
  have HA := alive_any w hv
  have key : ((decide (a < 0) || decide (12 < a)) || (decide (b < 0) || decide (12 < b))) = true := by
    simp only [Bool.or_eq_true, decide_eq_true_eq]
    omega
  clear hv
  by_cases c0 : a < 0
  all_goals by_cases c1 : 12 < a
  all_goals by_cases c2 : b < 0
  all_goals by_cases c3 : 12 < b
  all_goals first
    | (exfalso; omega)
    | (clear key h
       go_enter Tryz.func3, Tryz.ntmps3
       go_wp2_with fail
       refine HA.mono ?_
       rintro e w1 ⟨rfl, hb1⟩
       have HB := (show Hid _ from hb1)
       clear hb1 HA
       go_wp2_with fail
       refine bodyPost_ret (v := .bool true) (by simp [results, Tryz.results3, go_sem]) rfl ⟨rfl, HB.out⟩)

theorem topSums_any (a b : Int) (w : World) (hv : Vs w.heap.size w) : Calls Tryz.prog 3 #[.int .i64 a, .int .i64 b] w fun e w' => e = .returned (.bool true) ∧ Below w.heap.size w w' := by
  by_cases h : 0 ≤ a ∧ a ≤ 12 ∧ 0 ≤ b ∧ b ≤ 12
  · obtain ⟨m, rfl⟩ := Int.eq_ofNat_of_zero_le h.1
    obtain ⟨n, rfl⟩ := Int.eq_ofNat_of_zero_le h.2.2.1
    exact sums_in m n (by omega) (by omega) w hv
  · exact sums_out a b h w hv
end Go.Proofs.YthfjmcomhccbaaaGreatDoor

namespace Tmx
open Go Go.Deep Go.RowKit

/-- A byte as a cell. -/
def bv (c : UInt8) : Value := .int .u8 (c.toNat : Int)
/-- The bytes l lie in w from the cell o of the block b on. -/
def Bat (w : World) (b o : Nat) (l : List UInt8) : Prop := ∀ i (h : i < l.length), w.cell? ⟨b, o + i, none⟩ = some (bv l[i])
/-- The slice that begins at p holds the bytes l in w. -/
def ByS (w : World) (p : Option Addr) (l : List UInt8) : Prop := ∃ b o, (0 < l.length → p = some ⟨b, o, none⟩) ∧ Bat w b o l

theorem ByS.nil (w : World) (p : Option Addr) : ByS w p [] := ⟨0, 0, fun h => by simp at h, fun i h => by simp at h⟩
theorem ByS.some {w : World} {b o : Nat} {l : List UInt8} (h : Bat w b o l) : ByS w (some ⟨b, o, none⟩) l := ⟨b, o, fun _ => rfl, h⟩
theorem Bat.below {w w' : World} {b o : Nat} {l : List UInt8} (h : Bat w b o l) (hb : Below w.heap.size w w') : Bat w' b o l := fun i hi => below_some hb _ _ _ (h i hi)
theorem ByS.below {w w' : World} {p : Option Addr} {l : List UInt8} (h : ByS w p l) (hb : Below w.heap.size w w') : ByS w' p l :=
  let ⟨b, o, h1, h2⟩ := h
  ⟨b, o, h1, h2.below hb⟩
theorem ByS.drew {w : World} {p : Option Addr} {l : List UInt8} (h : ByS w p l) : ByS w.drew p l := h.below (Below.refl _ _).drew
theorem ByS.cons {w : World} {p : Option Addr} {c : UInt8} {l : List UInt8} (h : ByS w p (c :: l)) : ∃ b o, p = .some ⟨b, o, none⟩ ∧ b < w.heap.size ∧ w.cell? ⟨b, o, none⟩ = .some (.int .u8 (c.toNat : Int)) ∧ Bat w b (o + 1) l := by
  obtain ⟨b, o, h1, h2⟩ := h
  have h0 : w.cell? ⟨b, o, none⟩ = .some (.int .u8 (c.toNat : Int)) := h2 0 (by simp)
  refine ⟨b, o, h1 (by simp), World.block_lt_of_cell? w ⟨b, o, none⟩ h0, h0, fun i hi => ?_⟩
  have := h2 (i + 1) (by simp; omega)
  rw [show o + 1 + i = o + (i + 1) by omega, this]
  rfl
theorem Bat.drop {w : World} {b o : Nat} {l : List UInt8} (h : Bat w b o l) (m : Nat) : Bat w b (o + m) (l.drop m) := fun i hi => by
  have := h (m + i) (by simp at hi; omega)
  rw [show o + m + i = o + (m + i) by omega, this]
  simp
theorem Bat.take {w : World} {b o : Nat} {l : List UInt8} (h : Bat w b o l) (m : Nat) : Bat w b o (l.take m) := fun i hi => by
  have := h i (by simp at hi; omega)
  rw [this]
  simp

/-- The value v is the bytes l, in a row of one's own from the block lo on. -/
def BytesIn (lo : Nat) (w : World) (v : Value) (l : List UInt8) : Prop := w.ownsRow lo 5 1 v l.length (l.map bv)
theorem BytesIn.nil (lo : Nat) (w : World) : BytesIn lo w (.slice none 0 0) [] := World.ownsRow_nil w lo 5 1
theorem BytesIn.form {lo : Nat} {w : World} {v : Value} {l : List UInt8} (h : BytesIn lo w v l) : ∃ p cap, v = .slice p l.length cap ∧ l.length ≤ cap ∧ ByS w p l ∧ (p = none → cap = 0) := by
  obtain ⟨g1, g2⟩ := h
  rcases g2 with ⟨rfl, h0⟩ | ⟨g, cap, cur, rfl, hg, hh, hn, hm, hs, ht⟩
  · obtain rfl : l = [] := List.eq_nil_of_length_eq_zero h0
    exact ⟨none, 0, rfl, Nat.le_refl _, ByS.nil _ _, fun _ => rfl⟩
  · refine ⟨_, cap, rfl, hn, ByS.some fun i hi => ?_, fun e => by simp at e⟩
    rw [Nat.zero_add, cell_of_row w g i cur 5 (0, 0) hh]
    have : (cur.toList.take (l.length * 1))[i]? = (l.map bv)[i]? := by rw [ht]
    rw [List.getElem?_take, if_pos (by omega), List.getElem?_map, List.getElem?_eq_getElem hi] at this
    simpa using this
theorem BytesIn.facts {lo : Nat} {w : World} {p : Option Addr} {n cap : Nat} {l : List UInt8} (h : BytesIn lo w (.slice p n cap) l) : l.length ≤ cap ∧ ByS w p l ∧ (p = none → cap = 0) := by
  obtain ⟨p', cap', e, h1, h2, h3⟩ := h.form
  obtain ⟨rfl, _, rfl⟩ := Value.slice.inj e
  exact ⟨h1, h2, h3⟩
theorem BytesIn.along {lo : Nat} {w w' : World} {v : Value} {l : List UInt8} (h : BytesIn lo w v l) (hb : ∀ b, lo ≤ b → b < w.heap.size → w'.heap[b]? = w.heap[b]?) : BytesIn lo w' v l := by
  obtain ⟨g1, g2⟩ := h
  refine ⟨g1, ?_⟩
  rcases g2 with g2 | ⟨g, cap, cur, e, hg, hh, hr⟩
  · exact .inl g2
  · exact .inr ⟨g, cap, cur, e, hg, by rw [hb g hg (by obtain ⟨hlt, _⟩ := Array.getElem?_eq_some_iff.1 hh; exact hlt)]; exact hh, hr⟩
theorem BytesIn.below {lo : Nat} {w w' : World} {v : Value} {l : List UInt8} (h : BytesIn lo w v l) (hb : Below w.heap.size w w') : BytesIn lo w' v l := h.along fun b _ hl => hb.block b hl
theorem BytesIn.mono {lo lo' : Nat} {w : World} {v : Value} {l : List UInt8} (h : BytesIn lo w v l) (hl : lo' ≤ lo) : BytesIn lo' w v l := by
  obtain ⟨g1, g2⟩ := h
  refine ⟨g1, ?_⟩
  rcases g2 with g2 | ⟨g, cap, cur, e, hg, hr⟩
  · exact .inl g2
  · exact .inr ⟨g, cap, cur, e, by omega, hr⟩
/-- Behind an append to a row of one's own, blocks ahead are as they were. -/
theorem grown_below {w w' : World} {lo n sz : Nat} {e : TypeId} {v : Value} {xs : List Value} (hN : w.ownsRow lo e sz v n xs) (hg : w.grownBy w' v.ownBlock) (hlo : lo ≤ w.heap.size) : Below lo w w' :=
  ⟨hg.os, hg.tape, hg.output, hg.size, fun b hb => hg.block b (by omega) fun h => by have := (hN.lt b h.symm).1; omega⟩
end Tmx

namespace Go.Proofs.YthfjmcomhccbaaaGreatDoor
open Go.RowKit Tmx
set_option maxRecDepth 60000

theorem u39 : Tryz.prog.underlying 50 = some (.slice 5) := by kernel_rfl
theorem u5 : Tryz.prog.underlying 5 = some (.int .u8) := by kernel_rfl
theorem gu9 : Tryz.prog.underlying 9 = some .string := by kernel_rfl
theorem i5 : (Tryz.prog.info? 5).map (fun i => (i.zero, i.size, i.bytes)) = some (some (.int .u8 0), 1, 1) := by kernel_rfl

/-- A step by an append whose run is known, in a region that draws. -/
theorem gstep_append_run {P : Program} {ops : Array Oper} {o : Oper} {a : Act} {K : Act → World → Prop} {Q : Exit → Act → World → Prop} {E : Prop} {w w' : World} (hgd : o.guard = none) (s x : Operand) (t t' : TypeId)
    (ho : o.op = .call { callee := .builtin .append, args := #[s, x], argTypes := #[t, t'] }) (v1 v2 v' : Value) (hs : a.eval s = v1) (hx : a.eval x = v2)
    (hr : (Builtin.append_ #[t, t'] o.type #[v1, v2]).run P w = .ok v' w') (h : K (a.put o.dst v') w') : if Region.wanted o (yielded ops a.tmps) = true then Oper.wp P o a w K Q else E := by
  have hw : Region.wanted o (yielded ops a.tmps) = true := by simp [Region.wanted, hgd]
  rw [if_pos hw]
  unfold Oper.wp execOp
  simp only [ho, resolve, invoke, builtin, Sem.run_bind, Sem.run_pure, Result.andThen_ok, List.map_toArray, List.map_cons, List.map_nil, hs, hx, hr]
  exact h
/-- The same in a plain region. -/
theorem gwpList_append_run {P : Program} {ops : Array Oper} {rest : List Oper} {o : Oper} {a : Act} {Q : Exit → Act → World → Prop} {w w' : World} (hgd : o.guard = none) (s x : Operand) (t t' : TypeId)
    (ho : o.op = .call { callee := .builtin .append, args := #[s, x], argTypes := #[t, t'] }) (v1 v2 v' : Value) (hs : a.eval s = v1) (hx : a.eval x = v2)
    (hr : (Builtin.append_ #[t, t'] o.type #[v1, v2]).run P w = .ok v' w') (h : wpList P ops Q rest (a.put o.dst v') w') : wpList P ops Q (o :: rest) a w :=
  wpList_plain hgd fun _ hK => by
    unfold Oper.wp execOp
    simp only [ho, resolve, invoke, builtin, Sem.run_bind, Sem.run_pure, Result.andThen_ok, List.map_toArray, List.map_cons, List.map_nil, hs, hx, hr]
    exact hK _ _ h

/-- Bytes that lie somewhere are appended. -/
theorem append_bytes (w : World) (lo : Nat) (v : Value) (l : List UInt8) (hA : BytesIn lo w v l) (p : Option Addr) (c : Nat) (m : List UInt8) (hB : ByS w p m) (hp : p = none → c = 0) (hlen : l.length + m.length ≤ 140737488355328) (hlo : lo ≤ w.heap.size) (ty : TypeId) :
    ∃ v' w', (Builtin.append_ #[50, 50] ty #[v, .slice p m.length c]).run Tryz.prog w = .ok v' w' ∧ BytesIn lo w' v' (l ++ m) ∧ w.grownBy w' v.ownBlock ∧ Below lo w w' := by
  obtain ⟨i, hi, he⟩ := Option.map_eq_some_iff.1 i5
  simp only [Prod.mk.injEq] at he
  obtain ⟨hz, hs, hb⟩ := he
  cases p with
  | none =>
    obtain rfl : m = [] := by
      obtain ⟨b, o, h1, _⟩ := hB
      cases m with
      | nil => rfl
      | cons x m => exact absurd (h1 (by simp)) (by simp)
    rw [hp rfl]
    refine ⟨_, _, run_append_owned_none (P := Tryz.prog) w lo 50 ty 5 i 1 u39 hi _ _ _ hA, by simpa using hA, ⟨rfl, rfl, rfl, Nat.le_refl _, fun _ _ _ => rfl⟩, Below.refl _ _⟩
  | some a =>
    have hnews : ∀ j u, (m.map bv)[j]? = some u → w.cell? (a.add j) = some u := by
      intro j u hu
      obtain ⟨b, o, h1, h2⟩ := hB
      have hj : j < m.length := by
        obtain ⟨hlt, _⟩ := List.getElem?_eq_some_iff.1 hu
        simpa using hlt
      have ha : a = ⟨b, o, none⟩ := by simpa using h1 (by omega)
      subst ha
      have hadd : (⟨b, o, none⟩ : Addr).add j = ⟨b, o + j, none⟩ := by unfold Addr.add; split <;> simp_all
      rw [hadd, h2 j hj]
      rw [List.getElem?_map, List.getElem?_eq_getElem hj] at hu
      simpa using hu
    obtain ⟨v', w', hr, ho, hg, _⟩ := run_append_own (P := Tryz.prog) w lo 50 ty 5 i _ 1 1 u39 hi hz hs hb rfl (by decide) v l.length _ hA a m.length c (m.map bv) (by simp)
      hnews (by simp [Value.oneCell', bv]) (by simp only [maxLen]; omega) (by omega) hlo
    refine ⟨v', w', hr, ?_, hg, grown_below hA hg hlo⟩
    unfold BytesIn
    rw [List.length_append, List.map_append]
    exact ho
/-- One byte, laid in a block of its own, is appended. -/
theorem append_byte (w : World) (lo : Nat) (v : Value) (l : List UInt8) (hA : BytesIn lo w v l) (B : Nat) (x : UInt8) (hB : w.heap[B]? = some (.cells #[.int .u8 (x.toNat : Int)] 5 (0, 0))) (hlen : l.length ≤ 140737488355000) (hlo : lo ≤ w.heap.size) (ty : TypeId) :
    ∃ v' w', (Builtin.append_ #[50, 50] ty #[v, .slice (some ⟨B, 0, none⟩) 1 1]).run Tryz.prog w = .ok v' w' ∧ BytesIn lo w' v' (l ++ [x]) ∧ w.grownBy w' v.ownBlock ∧ Below lo w w' := by
  have := append_bytes w lo v l hA (some ⟨B, 0, none⟩) 1 [x] (ByS.some fun i hi => by
    have : i = 0 := by simp at hi; omega
    subst this
    rw [cell_of_row w B (0 + 0) _ 5 (0, 0) hB]
    rfl) (fun h => by simp at h) (by simp; omega) hlo ty
  simpa using this

/-- A string's bytes are appended to a list of bytes that was laid last. -/
theorem append_string (w : World) (lo B : Nat) (x : UInt8) (s : List UInt8) (hB : w.heap[B]? = some (.cells #[.int .u8 (x.toNat : Int)] 5 (0, 0))) (hlB : lo ≤ B) (hlen : s.length ≤ 1000000) (hlo : lo ≤ w.heap.size) (ty : TypeId) :
    ∃ v' w', (Builtin.append_ #[50, 9] ty #[.slice (some ⟨B, 0, none⟩) 1 1, .string ⟨s.toArray⟩]).run Tryz.prog w = .ok v' w' ∧ BytesIn lo w' v' (x :: s) ∧ Below lo w w' := by
  obtain ⟨i, hi, he⟩ := Option.map_eq_some_iff.1 i5
  simp only [Prod.mk.injEq] at he
  obtain ⟨hz, hs, hb⟩ := he
  have hsrc := Src.ofString (P := Tryz.prog) w gu9 ⟨s.toArray⟩
  have hbc : byteCells ⟨s.toArray⟩ = s.map bv := by simp [byteCells, bv]
  have hsz : (⟨s.toArray⟩ : ByteArray).size = s.length := by simp [ByteArray.size]
  rw [hbc, hsz] at hsrc
  have hown : BytesIn lo w (.slice (some ⟨B, 0, none⟩) 1 1) [x] := ⟨rfl, .inr ⟨B, 1, _, rfl, hlB, hB, Nat.le_refl _, by decide, rfl, rfl⟩⟩
  by_cases h0 : s.length = 0
  · obtain rfl : s = [] := List.eq_nil_of_length_eq_zero h0
    have hr := run_append_room_src (P := Tryz.prog) w 50 9 ty 5 i u39 hi B 0 1 1 _ 0 [] (by rw [hs]; exact hsrc) (by omega) (by simp) (by simp)
    refine ⟨_, _, hr, ?_, ?_⟩
    · simpa [World.setCells] using hown
    · simpa [World.setCells] using Below.refl lo w
  · have hold : (Builtin.firstCells i.size 1 (.slice (some ⟨B, 0, none⟩) 1 1)).run Tryz.prog w.drew = .ok ([bv x] : List Value).toArray w.drew :=
      run_firstCells_some w.drew i.size 1 ⟨B, 0, none⟩ 1 1 [bv x] (by rw [hs]; rfl) (World.news_of_block (w := w.drew) hB)
    have hfit : Builtin.nextslicecap (1 + s.length) 1 * i.bytes ≤ 281474976710656 := by
      rw [hb]
      unfold Builtin.nextslicecap
      repeat' split
      all_goals omega
    have hr := run_append_grow_src (P := Tryz.prog) w 50 9 ty 5 i _ u39 hi hz (some ⟨B, 0, none⟩) 1 1 _ hold _ s.length (s.map bv) (by rw [hs]; exact hsrc) (by omega) (by omega) hfit
    have hge := grownCap_ge w (1 + s.length) 1 5
    refine ⟨_, _, hr, ⟨by simp, .inr ⟨w.heap.size, grownCap w (1 + s.length) 1 5, _, ?_, hlo, heap_alloc_new w.drew _, by simp; omega, grownCap_le_maxLen w _ _ _ (by simp only [maxLen]; omega), ?_, ?_⟩⟩, ?_⟩
    · rw [List.length_cons, Nat.add_comm]
    · simp [size_zeroCells, Value.cells]
      omega
    · simp
    · exact ⟨rfl, rfl, rfl, by simp, fun k hk => heap_alloc_old w.drew _ (show k < w.heap.size by omega)⟩
end Go.Proofs.YthfjmcomhccbaaaGreatDoor
