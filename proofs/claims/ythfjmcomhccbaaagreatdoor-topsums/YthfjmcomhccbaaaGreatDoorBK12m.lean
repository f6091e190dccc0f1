/-
  The book of sums, and that of one: what Load takes of them.
-/
/-
  A trial's contracts of package canon: Number.
-/
/-
  A trial's contracts of package canon: Number, where nothing is bound.
-/
/-
  A trial's contracts of package canon: Numeral.
-/
/-
  The statements' own: app, a declaration's term with numbers.
-/
import Derived.Test.YthfjmcomhccbaaaGreatDoorBK10m
import Derived.ProofKit
import Derived.Test.YthfjmcomhccbaaaGreatDoorE22m
import Derived.Test.YthfjmcomhccbaaaGreatDoorI14m
import Derived.Test.YthfjmcomhccbaaaGreatDoorD0m
namespace Go.Proofs.YthfjmcomhccbaaaGreatDoor
open Go.RowKit Tmx Evx
set_option maxRecDepth 60000

/-- The lines of the book. -/
def sumsL : List (List UInt8) := [[40, 100, 101, 102, 32, 97, 100, 100, 32, 40, 112, 105, 32, 110, 97, 116, 32, 97, 32, 40, 112, 105, 32, 110, 97, 116, 32, 98, 32, 110, 97, 116, 41, 41, 32, 40, 102, 110, 32, 110, 97, 116, 32, 97, 32, 40, 102, 110, 32, 110, 97, 116, 32, 98, 32, 40, 114, 101, 99, 32, 110, 32, 110, 97, 116, 32, 98, 32, 109, 32, 107, 32, 40, 115, 117, 99, 32, 107, 41, 32, 97, 41, 41, 41, 41], [40, 100, 101, 102, 32, 109, 117, 108, 32, 40, 112, 105, 32, 110, 97, 116, 32, 97, 32, 40, 112, 105, 32, 110, 97, 116, 32, 98, 32, 110, 97, 116, 41, 41, 32, 40, 102, 110, 32, 110, 97, 116, 32, 97, 32, 40, 102, 110, 32, 110, 97, 116, 32, 98, 32, 40, 114, 101, 99, 32, 110, 32, 110, 97, 116, 32, 122, 101, 114, 111, 32, 109, 32, 107, 32, 40, 40, 97, 100, 100, 32, 98, 41, 32, 107, 41, 32, 97, 41, 41, 41, 41], [40, 100, 101, 102, 32, 115, 119, 97, 112, 32, 40, 112, 105, 32, 40, 115, 105, 103, 32, 110, 97, 116, 32, 110, 32, 110, 97, 116, 41, 32, 112, 32, 40, 115, 105, 103, 32, 110, 97, 116, 32, 110, 32, 110, 97, 116, 41, 41, 32, 40, 102, 110, 32, 40, 115, 105, 103, 32, 110, 97, 116, 32, 110, 32, 110, 97, 116, 41, 32, 112, 32, 40, 112, 97, 105, 114, 32, 110, 97, 116, 32, 110, 32, 110, 97, 116, 32, 40, 115, 110, 100, 32, 112, 41, 32, 40, 102, 115, 116, 32, 112, 41, 41, 41, 41], [40, 100, 101, 102, 32, 105, 115, 32, 40, 112, 105, 32, 110, 97, 116, 32, 97, 32, 40, 112, 105, 32, 110, 97, 116, 32, 98, 32, 85, 48, 41, 41, 32, 40, 102, 110, 32, 110, 97, 116, 32, 97, 32, 40, 114, 101, 99, 32, 110, 32, 40, 112, 105, 32, 110, 97, 116, 32, 98, 32, 85, 48, 41, 32, 40, 102, 110, 32, 110, 97, 116, 32, 98, 32, 40, 114, 101, 99, 32, 110, 32, 85, 48, 32, 117, 110, 105, 116, 32, 109, 32, 107, 32, 101, 109, 112, 116, 121, 32, 98, 41, 41, 32, 109, 32, 102, 32, 40, 102, 110, 32, 110, 97, 116, 32, 98, 32, 40, 114, 101, 99, 32, 110, 32, 85, 48, 32, 101, 109, 112, 116, 121, 32, 106, 32, 107, 32, 40, 102, 32, 106, 41, 32, 98, 41, 41, 32, 97, 41, 41, 41], []]
/-- What they declare. -/
def sumsD : List Dcl := [
⟨[97, 100, 100], (3, 0, (.node 0 0 (14, 0) .nil (.node 0 0 (3, 0) (.node 0 0 (14, 0) .nil (.node 0 0 (14, 0) .nil .nil)) .nil))), (4, 0, (.node 0 0 (14, 0) .nil (.node 0 0 (4, 0) (.node 0 0 (14, 0) .nil (.node 0 0 (17, 0) (.node 0 0 (14, 0) .nil (.node 0 0 (1, 0) .nil (.node 0 0 (16, 0) (.node 0 0 (1, 0) .nil .nil) (.node 0 0 (1, 1) .nil .nil)))) .nil)) .nil)))⟩,
⟨[109, 117, 108], (3, 0, (.node 0 0 (14, 0) .nil (.node 0 0 (3, 0) (.node 0 0 (14, 0) .nil (.node 0 0 (14, 0) .nil .nil)) .nil))), (4, 0, (.node 0 0 (14, 0) .nil (.node 0 0 (4, 0) (.node 0 0 (14, 0) .nil (.node 0 0 (17, 0) (.node 0 0 (14, 0) .nil (.node 0 0 (15, 0) .nil (.node 0 0 (5, 0) (.node 0 0 (5, 0) (.node 0 0 (18, 0) .nil (.node 0 0 (1, 2) .nil .nil)) (.node 0 0 (1, 0) .nil .nil)) (.node 0 0 (1, 1) .nil .nil)))) .nil)) .nil)))⟩,
⟨[115, 119, 97, 112], (3, 0, (.node 0 0 (6, 0) (.node 0 0 (14, 0) .nil (.node 0 0 (14, 0) .nil .nil)) (.node 0 0 (6, 0) (.node 0 0 (14, 0) .nil (.node 0 0 (14, 0) .nil .nil)) .nil))), (4, 0, (.node 0 0 (6, 0) (.node 0 0 (14, 0) .nil (.node 0 0 (14, 0) .nil .nil)) (.node 0 0 (7, 0) (.node 0 0 (14, 0) .nil (.node 0 0 (14, 0) .nil (.node 0 0 (9, 0) (.node 0 0 (1, 0) .nil .nil) (.node 0 0 (8, 0) (.node 0 0 (1, 0) .nil .nil) .nil)))) .nil)))⟩,
⟨[105, 115], (3, 0, (.node 0 0 (14, 0) .nil (.node 0 0 (3, 0) (.node 0 0 (14, 0) .nil (.node 0 0 (2, 0) .nil .nil)) .nil))), (4, 0, (.node 0 0 (14, 0) .nil (.node 0 0 (17, 0) (.node 0 0 (3, 0) (.node 0 0 (14, 0) .nil (.node 0 0 (2, 0) .nil .nil)) (.node 0 0 (4, 0) (.node 0 0 (14, 0) .nil (.node 0 0 (17, 0) (.node 0 0 (2, 0) .nil (.node 0 0 (10, 0) .nil (.node 0 0 (12, 0) .nil (.node 0 0 (1, 0) .nil .nil)))) .nil)) (.node 0 0 (4, 0) (.node 0 0 (14, 0) .nil (.node 0 0 (17, 0) (.node 0 0 (2, 0) .nil (.node 0 0 (12, 0) .nil (.node 0 0 (5, 0) (.node 0 0 (1, 3) .nil (.node 0 0 (1, 1) .nil .nil)) (.node 0 0 (1, 0) .nil .nil)))) .nil)) (.node 0 0 (1, 0) .nil .nil)))) .nil)))⟩]
def oneL : List (List UInt8) := [[40, 100, 101, 102, 32, 111, 110, 101, 32, 110, 97, 116, 32, 40, 115, 117, 99, 32, 122, 101, 114, 111, 41, 41]]
def oneD : List Dcl := [⟨[111, 110, 101], (14, 0, .nil), (16, 0, (.node 0 0 (15, 0) .nil .nil))⟩]
theorem sums_reckoned : loadsB 40 1000 20 sumsL sumsD = true := by kernel_rfl
theorem one_reckoned : loadsB 40 1000 20 oneL oneD = true := by kernel_rfl
/-- A book of lines that are all taken. -/
theorem load_lines (s cf fu : Nat) (all : List (List UInt8)) (ds : List Dcl) (w : World) (h : loadsB s cf fu all ds = true) (hv : Vs w.heap.size w) :
    Calls Tryz.prog 11 #[.string ⟨(joinR all).toArray⟩] w fun e w' => (∃ v u, e = .returned (.tuple #[v, u]) ∧ DlIn w.heap.size w' v ds ∧ w'.ownsRow w.heap.size 40 2 u ds.length (okVs ds.length)) ∧ Below w.heap.size w w' :=
  load_any s cf fu all.length _ _ ds (joinR all) w (loads_of h) (by simp) hv
end Go.Proofs.YthfjmcomhccbaaaGreatDoor

namespace Go.Proofs.YthfjmcomhccbaaaGreatDoor
open Go.RowKit Tmx Evx
set_option maxRecDepth 60000

/-- The number that a value is. -/
def numOfV (s : Nat) : Nat → V → Option Int
  | 0, _ => none
  | m + 1, v => if v.is 16 1 = true then (match argV v 0 [] with
      | some t => match ev s t with
        | some v' => (numOfV s m v').map (· + 1)
        | none => none
      | none => none) else if v.is 15 0 = true then some 0 else none
/-- The number that a thunk comes to. -/
def numV (s m : Nat) (t : Th) : Option Int := match ev s t with
  | some v => numOfV s m v
  | none => none
theorem numOfV_nn (s : Nat) : ∀ (m : Nat) (v : V) (n : Int), numOfV s m v = some n → 0 ≤ n ∧ n < m
  | 0, _, _, h => by simp [numOfV] at h
  | m + 1, v, n, h => by
    rw [numOfV] at h
    split at h
    · split at h
      · split at h
        · rename_i v' _
          cases e : numOfV s m v' with
          | none => rw [e] at h; simp at h
          | some k =>
            rw [e] at h
            have := numOfV_nn s m v' k e
            simp at h
            omega
        · cases h
      · cases h
    · split at h
      · simp at h; omega
      · cases h

set_option maxHeartbeats 4000000 in
theorem count_lat (s m b : Nat) (t : Th) (n : Int) (g : Gh) (w : World) (hi : Inv g w) (hl : g.l b = some t) (hn : numV s m t = some n) (hm : m ≤ 1000000) :
    Calls Tryz.prog 13 #[ptr b] w fun e w' => ∃ g', e = .returned (.tuple #[.int .i64 n, .bool true]) ∧ Ste g w g' w' := by
  obtain ⟨v0, hv0, hn0⟩ : ∃ v, ev s t = some v ∧ numOfV s m v = some n := by
    unfold numV at hn
    cases e : ev s t with
    | none => rw [e] at hn; cases hn
    | some v => rw [e] at hn; exact ⟨v, rfl, hn⟩
  have HN := now_any b t v0 g w hi hl ⟨s, hv0⟩
  have H0 := (show Hid _ from And.intro hi hn0)
  clear hi hl hn hv0 hn0
  unfold ptr at *
  go_enter Tryz.func13, Tryz.ntmps13
  go_wp2_with fail
  refine HN.mono ?_
  rintro e w1 ⟨g1, q1, rfl, hs1, hv1⟩
  have H1 := (show Hid _ from And.intro hs1 hv1)
  clear HN hs1 hv1
  unfold ptr
  go_wp2_with fail
  go_loopg [4, 5] m (fun k c vq wr => ∃ (g' : Gh) (q : Nat) (v : V) (j : Nat), vq = .pointer (some ⟨q, 0, none⟩) ∧ c = .int .i64 (j : Int) ∧ j ≤ m ∧ j + k ≤ m ∧ Hid (Ste g w g' wr ∧ g'.v q = some v ∧ numOfV s k v = some (n - j)))
  case atStart => exact ⟨g1, q1, v0, 0, rfl, rfl, Nat.zero_le _, by omega, H1.out.1, H1.out.2, by rw [H0.out.2]; simp⟩
  case round =>
    obtain ⟨g', q, v, j, rfl, rfl, hj, hk, HS⟩ := hrel
    obtain ⟨hs, hv, hn⟩ := HS.out
    clear H0 H1 HS
    cases gk with
    | zero => simp [numOfV] at hn
    | succ k =>
    have HI0 : Calls Tryz.prog 21 #[.pointer (some ⟨q, 0, none⟩), .int .i64 16, .int .i64 1] wr fun e w' => e = .returned (.bool (v.is 16 1)) ∧ w' = wr := is_any q v 16 1 g' wr hs.inv hv
    have HI1 : Calls Tryz.prog 21 #[.pointer (some ⟨q, 0, none⟩), .int .i64 15, .int .i64 0] wr fun e w' => e = .returned (.bool (v.is 15 0)) ∧ w' = wr := is_any q v 15 0 g' wr hs.inv hv
    rw [numOfV] at hn
    cases e1 : v.is 16 1 with
    | true =>
      rw [e1] at HI0
      rw [e1, if_pos rfl] at hn
      obtain ⟨t1, v1, ha, he, hn1⟩ : ∃ t1 v1, argV v 0 [] = some t1 ∧ ev s t1 = some v1 ∧ numOfV s k v1 = some (n - (j + 1 : Nat)) := by
        cases ea : argV v 0 [] with
        | none => rw [ea] at hn; cases hn
        | some t1 =>
          rw [ea] at hn
          dsimp only at hn
          cases ee : ev s t1 with
          | none => rw [ee] at hn; cases hn
          | some v1 =>
            rw [ee] at hn
            dsimp only at hn
            refine ⟨t1, v1, rfl, ee, ?_⟩
            cases en : numOfV s k v1 with
            | none => rw [en] at hn; cases hn
            | some x =>
              rw [en] at hn
              have : x + 1 = n - j := by simpa using hn
              rw [show x = n - (j + 1 : Nat) by omega]
      have hnn := numOfV_nn s k v1 _ hn1
      have HA : Calls Tryz.prog 22 #[.pointer (some ⟨q, 0, none⟩), .int .i64 0, .slice none 0 0] wr (LatP g' wr t1) :=
        argV_any q 0 v none 0 [] t1 g' wr hs.inv hv (fun h => absurd h (by simp)) (by simp) ha
      have HX := (show Hid _ from And.intro hs (And.intro he hn1))
      clear hs hv hn HI1 ha he hn1
      go_wp2_with fail
      refine HI0.mono ?_
      rintro e wq ⟨rfl, rfl⟩
      go_wp2_with fail
      refine HA.mono ?_
      rintro e w2 ⟨g2, b2, rfl, hs2, hl2⟩
      have HN := now_any b2 t1 v1 g2 w2 hs2.inv hl2 ⟨s, HX.out.2.1⟩
      have HX2 := (show Hid _ from hs2)
      unfold ptr at *
      clear hs2 hl2 HA
      go_wp2_with fail
      refine HN.mono ?_
      rintro e w3 ⟨g3, q3, rfl, hs3, hv3⟩
      have HX3 := (show Hid _ from And.intro hs3 hv3)
      unfold ptr
      clear hs3 hv3 HN
      go_wp2_with fail
      go_roundg k
      case measure => omega
      case rel =>
        exact ⟨g3, q3, v1, j + 1, rfl, by push_cast; rfl, by omega, by omega, (HX.out.1.trans HX2.out).trans HX3.out.1, HX3.out.2, HX.out.2.2⟩
    | false =>
      rw [e1] at HI0
      rw [e1, if_neg (by decide)] at hn
      cases e2 : v.is 15 0 with
      | false => rw [e2, if_neg (by decide)] at hn; cases hn
      | true =>
        rw [e2] at HI1
        rw [e2, if_pos rfl] at hn
        obtain rfl : n = j := by
          have : (0 : Int) = n - j := by simpa using hn
          omega
        have HX := (show Hid _ from hs)
        clear hs hv hn
        go_wp2_with fail
        refine HI0.mono ?_
        rintro e wq ⟨rfl, rfl⟩
        go_wp2_with fail
        refine HI1.mono ?_
        rintro e wq ⟨rfl, rfl⟩
        go_wp2_with fail
        refine bodyPost_ret (v := .tuple #[.int .i64 j, .bool true]) (by simp [results, Tryz.results13, go_sem]) rfl ⟨g', rfl, HX.out⟩
end Go.Proofs.YthfjmcomhccbaaaGreatDoor

namespace Go.Proofs.YthfjmcomhccbaaaGreatDoor
open Go.RowKit Tmx Evx
set_option maxRecDepth 60000

set_option maxHeartbeats 4000000 in
theorem numberTop_any (s m : Nat) (hm : m ≤ 1000000) (p q : Option Addr) (cap c : Nat) (D : List (Int × Int × F)) (k n r : Int) (f : F) (w : World) (hd : DefsAt (old w) w p D) (hD : D.length ≤ 1000) (hc : len f ≤ c) (hq : SlO (old w) w q f) (hk : k ≠ 1)
    (hr : numV s m (later ⟨0, 0, D⟩ k n f []) = some r) :
    Calls Tryz.prog 7 #[.slice p D.length cap, .agg #[.int .i64 k, .int .i64 n, .slice q (len f) c]] w fun e w' => e = .returned (.tuple #[.int .i64 r, .bool true]) ∧ Below w.heap.size w w' := by
  obtain ⟨g1, hs1, ht1⟩ := boxed (k := k) (n := n) hc hq
  have hmo := hs1.mor (inv00 w)
  have HM := newMaker_any p cap 0 D g1 _ hs1.inv (fun i d e => let ⟨b, o, e1, h1, h2⟩ := hd i d e; ⟨b, o, e1, h1.along hmo.o hmo.same, h2⟩) hD
  have HR : Hid (numV s m (later ⟨0, 0, D⟩ k n f []) = some r) := hr
  obtain ⟨nd, hnd⟩ : ∃ nd, D.length = nd := ⟨_, rfl⟩
  obtain ⟨l, hlf⟩ : ∃ l, len f = l := ⟨_, rfl⟩
  rw [hnd] at HM ⊢
  rw [hlf] at HM hs1 ht1 ⊢
  have HT : Hid (Ste (g00 w) w g1 (w.alloc (.cells #[.int .i64 k, .int .i64 n, .slice q l c] 30)) ∧ TmAt g1.o (w.alloc (.cells #[.int .i64 k, .int .i64 n, .slice q l c] 30)) w.heap.size 0 k n f) := ⟨hs1, ht1⟩
  unfold ptr at *
  clear hs1 ht1 hmo hd hc hq hr hnd hlf hD
  go_enter Tryz.func7, Tryz.ntmps7
  go_wp2_with fail
  refine HM.mono ?_
  rintro e w1 ⟨g2, bm, rfl, hs2, hM2⟩
  have HL := mlater_any bm w.heap.size 0 ⟨0, 0, D⟩ k n f none 0 [] g2 w1 hs2.inv hM2 (HT.out.2.mor (hs2.mor HT.out.1.inv)) (fun h => absurd h (by simp)) (by simp) (fun h => absurd h hk)
  have HB : Hid (Ste (g00 w) w g2 w1) := HT.out.1.trans hs2
  rw [List.length_nil] at HL
  unfold ptr at *
  clear hs2 hM2 HM
  go_wp2_with fail
  refine HL.mono ?_
  rintro e w2 ⟨g3, b3, rfl, hs3, hl3⟩
  have HN := count_lat s m b3 _ r g3 w2 hs3.inv hl3 HR.out hm
  have HB2 : Hid (Ste (g00 w) w g3 w2) := HB.out.trans hs3
  unfold ptr at *
  clear hs3 hl3 HL
  go_wp2_with fail
  refine HN.mono ?_
  rintro e w3 ⟨g4, rfl, hs4⟩
  have HF : Hid (Below w.heap.size w w3) := below00 (HB2.out.trans hs4)
  clear hs4 HN
  go_wp2_with fail
  refine bodyPost_ret (v := .tuple #[.int .i64 r, .bool true]) (by simp [results, Tryz.results7, go_sem]) rfl ⟨rfl, HF.out⟩
end Go.Proofs.YthfjmcomhccbaaaGreatDoor

namespace Go.Proofs.YthfjmcomhccbaaaGreatDoor
open Go.RowKit Tmx Evx
set_option maxRecDepth 60000

/-- A term: its kind, its number, its arguments. -/
abbrev X3 := Int × Int × F
/-- A number, as a term. -/
def numX : Nat → X3
  | 0 => (15, 0, .nil)
  | n + 1 => (16, 0, nd (numX n).1 (numX n).2.1 (numX n).2.2 .nil)

/-- One term, as a list in a new block. -/
theorem slo_one {lo : Nat} {w : World} {p : Option Addr} {f : F} {c : Nat} (k n : Int) (h : SlO (fresh lo) w p f) (hlo : lo ≤ w.heap.size) (hc : len f ≤ c) :
    SlO (fresh lo) (w.alloc (.cells #[.int .i64 k, .int .i64 n, .slice p (len f) c] 30)) (some ⟨w.heap.size, 0, none⟩) (nd k n f .nil) := by
  have hb : Below w.heap.size w (w.alloc (.cells #[.int .i64 k, .int .i64 n, .slice p (len f) c] 30)) := (Below.refl _ _).alloc (Nat.le_refl _) _
  obtain ⟨b', o', h1, h2⟩ := h.carry (w' := w.alloc (.cells #[.int .i64 k, .int .i64 n, .slice p (len f) c] 30)) fun b o v _ hv => below_some hb _ _ _ hv
  obtain ⟨c0, c1, c2, _, _, _⟩ := (Blk.new w #[.int .i64 k, .int .i64 n, .slice p (len f) c] 30).three
  exact ⟨w.heap.size, 0, fun _ => rfl, hlo, c0, c1, ⟨p, b', o', ⟨c, hc⟩, c2, h1, h2⟩, trivial⟩

set_option maxHeartbeats 4000000 in
theorem numeral_any (n : Nat) (w : World) (hn : n ≤ 1099511627776) :
    Calls Tryz.prog 9 #[.int .i64 (n : Int)] w fun e w' => (∃ v, e = .returned v ∧ TmC w.heap.size w' v (numX n)) ∧ Below w.heap.size w w' := by
  go_enter Tryz.func9, Tryz.ntmps9
  go_wp2_with fail
  go_loopg [6] n (fun gg i wr => ∃ (j : Nat) (k : Int) (f : F) (p : Option Addr) (l cap : Nat), gg = n - j ∧ j ≤ n ∧ i = .int .i64 (j : Int) ∧ Below w.heap.size w wr ∧ (∃ a0 a1 a2, Box wr w.heap.size a0 a1 a2) ∧ Box wr (w.heap.size + 1) (.int .i64 k) (.int .i64 0) (.slice p l cap) ∧
      Hid (len f = l ∧ len f ≤ cap ∧ numX j = (k, 0, f) ∧ SlO (fresh (w.heap.size + 2)) wr p f))
  case atStart =>
    refine ⟨0, 15, .nil, none, 0, 0, rfl, Nat.zero_le _, rfl, ?_, ?_, ?_, rfl, Nat.le_refl _, rfl, SlO.nil _ _ _⟩
    · exact ((Below.refl _ _).alloc (Nat.le_refl _) _).alloc (by simp) _
    · exact ⟨_, _, _, (Box.new w _ _ _).alloc _⟩
    · have := Box.new (w.alloc (.cells #[.int .i64 0, .int .i64 0, .slice none 0 0] 30)) (.int .i64 15) (.int .i64 0) (.slice none 0 0)
      rw [World.size_alloc] at this
      exact this
  case round =>
    obtain ⟨j, k, f, p, l, cap, rfl, hj, rfl, hb, ⟨a0, a1, a2, bx⟩, by_, HS⟩ := hrel
    obtain ⟨x0, x1, x2, y0, y1, y2⟩ := bx.facts
    obtain ⟨z0, z1, z2, u0, u1, u2⟩ := by_.facts
    have l1 := bx.lt
    have l2 := by_.lt
    by_cases hlt : j < n
    · go_wp2_with fail
      go_roundg (n - (j + 1))
      case measure => omega
      case rel =>
        obtain ⟨rfl, hc, hX, hS⟩ := HS.out
        have ne : w.heap.size + 1 < w.heap.size + 2 := by omega
        have n1 : w.heap.size ≠ w.heap.size + 1 := by omega
        have n2 : w.heap.size ≤ w.heap.size + 1 := by omega
        have hB := (((hb.setCell (p := ⟨w.heap.size + 1, 0, none⟩) n2 (.int .i64 16)).setCell (p := ⟨w.heap.size + 1, 1, none⟩) n2 (.int .i64 0)).setCell (p := ⟨w.heap.size + 1, 2, none⟩) n2 (.slice (some ⟨wr.heap.size, 0, none⟩) 1 1)).alloc (by simp; omega) (.cells #[.int .i64 k, .int .i64 0, .slice p (len f) cap] 30)
        have hX1 := (((bx.setOther (x := ⟨w.heap.size + 1, 0, none⟩) n1 (.int .i64 16)).setOther (x := ⟨w.heap.size + 1, 1, none⟩) n1 (.int .i64 0)).setOther (x := ⟨w.heap.size + 1, 2, none⟩) n1 (.slice (some ⟨wr.heap.size, 0, none⟩) 1 1)).alloc (.cells #[.int .i64 k, .int .i64 0, .slice p (len f) cap] 30)
        have hY := (by_.set (.int .i64 16) (.int .i64 0) (.slice (some ⟨wr.heap.size, 0, none⟩) 1 1)).alloc (.cells #[.int .i64 k, .int .i64 0, .slice p (len f) cap] 30)
        have hZ := slo_one k 0 (((hS.setFresh (x := ⟨w.heap.size + 1, 0, none⟩) ne (.int .i64 16)).setFresh (x := ⟨w.heap.size + 1, 1, none⟩) ne (.int .i64 0)).setFresh (x := ⟨w.heap.size + 1, 2, none⟩) ne (.slice (some ⟨wr.heap.size, 0, none⟩) 1 1)) (by simp; omega) hc
        rw [World.size_setCell, World.size_setCell, World.size_setCell] at hZ
        exact ⟨j + 1, 16, nd k 0 f .nil, some ⟨wr.heap.size, 0, none⟩, 1, 1, rfl, by omega, by push_cast; rfl, hB, ⟨a0, a1, a2, hX1⟩, hY, rfl, Nat.le_refl _, by rw [numX, hX], hZ⟩
    · obtain rfl : j = n := by omega
      go_wp2_with fail
      obtain ⟨d0, d1, d2, _, _, _⟩ := (bx.set (.int .i64 k) (.int .i64 0) (.slice p l cap)).facts
      obtain ⟨rfl, hc, hX, hS⟩ := HS.out
      have ne : w.heap.size < w.heap.size + 2 := by omega
      refine bodyPost_ret (v := .agg #[.int .i64 k, .int .i64 0, .slice p (len f) cap]) (by simp [results, Tryz.results9, go_sem, d0, d1, d2]) rfl ⟨⟨_, rfl, ?_⟩, ?_⟩
      · rw [hX]
        exact ⟨p, ⟨cap, hc⟩, rfl, (((hS.setFresh (x := ⟨w.heap.size, 0, none⟩) ne (.int .i64 k)).setFresh (x := ⟨w.heap.size, 1, none⟩) ne (.int .i64 0)).setFresh (x := ⟨w.heap.size, 2, none⟩) ne (.slice p (len f) cap)).mono fun b (h : w.heap.size + 2 ≤ b) => show w.heap.size ≤ b by omega⟩
      · exact ((hb.setCell (p := ⟨w.heap.size, 0, none⟩) (Nat.le_refl _) (.int .i64 k)).setCell (p := ⟨w.heap.size, 1, none⟩) (Nat.le_refl _) (.int .i64 0)).setCell (p := ⟨w.heap.size, 2, none⟩) (Nat.le_refl _) (.slice p (len f) cap)
end Go.Proofs.YthfjmcomhccbaaaGreatDoor

namespace Go.Proofs.YthfjmcomhccbaaaGreatDoor
open Go.RowKit Tmx Evx
set_option maxRecDepth 60000

/-- x applied to n. -/
def appN (x : X3) (n : Nat) : X3 := (5, 0, nd x.1 x.2.1 x.2.2 (nd (numX n).1 (numX n).2.1 (numX n).2.2 .nil))
/-- Declaration d, applied to each of ns. -/
def appX (d : Int) (ns : List Nat) : X3 := ns.foldl appN (18, d, .nil)

/-- Two terms, as a list in a new block. -/
theorem slo_two {lo : Nat} {w : World} {p q : Option Addr} {f e : F} {c b : Nat} (k n i m : Int) (h : SlO (fresh lo) w p f) (he : SlO (fresh lo) w q e) (hlo : lo ≤ w.heap.size) (hc : len f ≤ c) (hb : len e ≤ b) :
    SlO (fresh lo) (w.alloc (.cells #[.int .i64 k, .int .i64 n, .slice p (len f) c, .int .i64 i, .int .i64 m, .slice q (len e) b] 30)) (some ⟨w.heap.size, 0, none⟩) (nd k n f (nd i m e .nil)) := by
  have hB : Below w.heap.size w (w.alloc (.cells #[.int .i64 k, .int .i64 n, .slice p (len f) c, .int .i64 i, .int .i64 m, .slice q (len e) b] 30)) := (Below.refl _ _).alloc (Nat.le_refl _) _
  obtain ⟨b1, o1, h1, h2⟩ := h.carry (w' := w.alloc (.cells #[.int .i64 k, .int .i64 n, .slice p (len f) c, .int .i64 i, .int .i64 m, .slice q (len e) b] 30)) fun b o v _ hv => below_some hB _ _ _ hv
  obtain ⟨b2, o2, h3, h4⟩ := he.carry (w' := w.alloc (.cells #[.int .i64 k, .int .i64 n, .slice p (len f) c, .int .i64 i, .int .i64 m, .slice q (len e) b] 30)) fun b o v _ hv => below_some hB _ _ _ hv
  have hN := Blk.new w #[.int .i64 k, .int .i64 n, .slice p (len f) c, .int .i64 i, .int .i64 m, .slice q (len e) b] 30
  exact ⟨w.heap.size, 0, fun _ => rfl, hlo, by rw [hN.cell]; rfl, by rw [hN.cell]; rfl, ⟨p, b1, o1, ⟨c, hc⟩, by rw [hN.cell]; rfl, h1, h2⟩,
    hlo, by rw [hN.cell]; rfl, by rw [hN.cell]; rfl, ⟨q, b2, o2, ⟨b, hb⟩, by rw [hN.cell]; rfl, h3, h4⟩, trivial⟩

set_option maxHeartbeats 4000000 in
theorem app_any (d : Int) (ns : List Nat) (B : Nat) (cap : Nat) (w : World) (hB : B < w.heap.size) (hns : ∀ (i n : Nat), ns[i]? = some n → n ≤ 1000000 ∧ w.cell? ⟨B, i, none⟩ = some (.int .i64 (n : Int))) (hl : ns.length ≤ 1000) :
    Calls Tryz.prog 8 #[.int .i64 d, .slice (some ⟨B, 0, none⟩) ns.length cap] w fun e w' => (∃ v, e = .returned v ∧ TmC w.heap.size w' v (appX d ns)) ∧ Below w.heap.size w w' := by
  obtain ⟨m, hm⟩ : ∃ m, ns.length = m := ⟨_, rfl⟩
  have HS : Hid (ns.length = m ∧ ∀ (i n : Nat), ns[i]? = some n → n ≤ 1000000 ∧ w.cell? ⟨B, i, none⟩ = some (.int .i64 (n : Int))) := ⟨hm, hns⟩
  rw [hm] at hl ⊢
  clear hns hm
  go_enter Tryz.func8, Tryz.ntmps8
  go_wp2_with fail
  go_loopg [12] m (fun gg i wr => ∃ (j : Nat) (k n : Int) (f : F) (p : Option Addr) (l cap : Nat), gg = m - j ∧ j ≤ m ∧ i = .int .i64 (j : Int) ∧ Below w.heap.size w wr ∧ (∃ a0 a1 a2, Box wr w.heap.size a0 a1 a2) ∧ Box wr (w.heap.size + 1) (.int .i64 k) (.int .i64 n) (.slice p l cap) ∧
      Hid (len f = l ∧ len f ≤ cap ∧ appX d (ns.take j) = (k, n, f) ∧ SlO (fresh (w.heap.size + 2)) wr p f))
  case atStart =>
    refine ⟨0, 18, d, .nil, none, 0, 0, rfl, Nat.zero_le _, rfl, ?_, ?_, ?_, rfl, Nat.le_refl _, rfl, SlO.nil _ _ _⟩
    · exact ((Below.refl _ _).alloc (Nat.le_refl _) _).alloc (by simp) _
    · exact ⟨_, _, _, (Box.new w _ _ _).alloc _⟩
    · have := Box.new (w.alloc (.cells #[.int .i64 0, .int .i64 0, .slice none 0 0] 30)) (.int .i64 18) (.int .i64 d) (.slice none 0 0)
      rw [World.size_alloc] at this
      exact this
  case round =>
    obtain ⟨j, k, n, f, p, l, cp, rfl, hj, rfl, hb, ⟨a0, a1, a2, bx⟩, by_, H⟩ := hrel
    obtain ⟨x0, x1, x2, y0, y1, y2⟩ := bx.facts
    obtain ⟨z0, z1, z2, u0, u1, u2⟩ := by_.facts
    have l1 := bx.lt
    have l2 := by_.lt
    by_cases hlt : j < m
    · obtain ⟨nj, hnj⟩ : ∃ x, ns[j]? = some x := ⟨_, List.getElem?_eq_getElem (by have := HS.out.1; omega)⟩
      obtain ⟨hn1, hc⟩ := HS.out.2 j nj hnj
      have hc' := below_some hb _ _ _ hc
      have HN : Hid (Calls Tryz.prog 9 #[.int .i64 (nj : Int)] wr.drew fun e w' => (∃ v, e = .returned v ∧ TmC wr.drew.heap.size w' v (numX nj)) ∧ Below wr.drew.heap.size wr.drew w') := numeral_any nj wr.drew (by omega)
      have l3 : B < wr.heap.size := by have := hb.size; omega
      obtain ⟨k2, n2, f2, hx2⟩ : ∃ k2 n2 f2, numX nj = (k2, n2, f2) := ⟨_, _, _, rfl⟩
      rw [hx2] at HN
      have HX2 := (show Hid _ from hx2)
      clear hx2
      go_wp2_with fail
      go_region_with (first | (go_at_call 9; refine HN.out.mono ?_; rintro e w1 ⟨⟨v, hv, p1, ⟨cap1, hcap1⟩, hve, hsl1⟩, hb1'⟩; dsimp only at hve hcap1 hsl1; subst hve; subst hv; have hb1 := undrew hb1'; clear hb1'; have bx1 := bx.below hb1; have by1 := by_.below hb1; have l5 := by1.lt; obtain ⟨v0, v1, v2, g0, g1, g2⟩ := by1.facts))
      all_goals (
        obtain ⟨rfl, hcf, hX, hS⟩ := H.out
        have hb2 : Below w.heap.size w w1 := hb.trans (hb1.mono hb.size)
        have hS1 : SlO (fresh (w.heap.size + 2)) w1 p f := hS.carry fun b o v _ hv => below_some hb1 _ _ _ hv
        have hSn : SlO (fresh (w.heap.size + 2)) w1 p1 f2 := hsl1.mono fun b (h : wr.heap.size ≤ b) => show w.heap.size + 2 ≤ b by omega
        have ne : w.heap.size + 1 < w.heap.size + 2 := by omega
        have n1 : w.heap.size ≠ w.heap.size + 1 := by omega
        have n2' : w.heap.size ≤ w.heap.size + 1 := by omega
        have hBel := (((hb2.setCell (p := ⟨w.heap.size + 1, 0, none⟩) n2' (.int .i64 5)).setCell (p := ⟨w.heap.size + 1, 1, none⟩) n2' (.int .i64 0)).setCell (p := ⟨w.heap.size + 1, 2, none⟩) n2' (.slice (some ⟨w1.heap.size, 0, none⟩) 2 2)).alloc (by simp; omega) (.cells #[.int .i64 k, .int .i64 n, .slice p (len f) cp, .int .i64 k2, .int .i64 n2, .slice p1 (len f2) cap1] 30)
        have hX1 := (((bx1.setOther (x := ⟨w.heap.size + 1, 0, none⟩) n1 (.int .i64 5)).setOther (x := ⟨w.heap.size + 1, 1, none⟩) n1 (.int .i64 0)).setOther (x := ⟨w.heap.size + 1, 2, none⟩) n1 (.slice (some ⟨w1.heap.size, 0, none⟩) 2 2)).alloc (.cells #[.int .i64 k, .int .i64 n, .slice p (len f) cp, .int .i64 k2, .int .i64 n2, .slice p1 (len f2) cap1] 30)
        have hY := (by1.set (.int .i64 5) (.int .i64 0) (.slice (some ⟨w1.heap.size, 0, none⟩) 2 2)).alloc (.cells #[.int .i64 k, .int .i64 n, .slice p (len f) cp, .int .i64 k2, .int .i64 n2, .slice p1 (len f2) cap1] 30)
        have hZ := slo_two k n k2 n2 (((hS1.setFresh (x := ⟨w.heap.size + 1, 0, none⟩) ne (.int .i64 5)).setFresh (x := ⟨w.heap.size + 1, 1, none⟩) ne (.int .i64 0)).setFresh (x := ⟨w.heap.size + 1, 2, none⟩) ne (.slice (some ⟨w1.heap.size, 0, none⟩) 2 2))
          (((hSn.setFresh (x := ⟨w.heap.size + 1, 0, none⟩) ne (.int .i64 5)).setFresh (x := ⟨w.heap.size + 1, 1, none⟩) ne (.int .i64 0)).setFresh (x := ⟨w.heap.size + 1, 2, none⟩) ne (.slice (some ⟨w1.heap.size, 0, none⟩) 2 2)) (by simp; omega) hcf hcap1
        rw [World.size_setCell, World.size_setCell, World.size_setCell] at hZ
        have hA : appX d (ns.take (j + 1)) = (5, 0, nd k n f (nd k2 n2 f2 .nil)) := by
          rw [appX, List.take_add_one, hnj, List.foldl_append]
          show appN (appX d (ns.take j)) nj = _
          rw [hX, appN, HX2.out]
        have HALL := (show Hid _ from And.intro hBel (And.intro hX1 (And.intro hY (And.intro hA hZ))))
        clear hBel hX1 hY hA hZ hS1 hSn hS hX bx1 by1 hb1 hb2 v0 v1 v2 g0 g1 g2 hsl1 H HX2 HN x0 x1 x2 y0 y1 y2 z0 z1 z2 u0 u1 u2 hc hc'
        go_wp2_with fail
        go_roundg (m - (j + 1))
        case measure => omega
        case rel => exact ⟨j + 1, 5, 0, nd k n f (nd k2 n2 f2 .nil), some ⟨w1.heap.size, 0, none⟩, 2, 2, rfl, by omega, by push_cast; rfl, HALL.out.1, ⟨a0, a1, a2, HALL.out.2.1⟩, HALL.out.2.2.1, rfl, Nat.le_refl _, HALL.out.2.2.2.1, HALL.out.2.2.2.2⟩)
    · obtain rfl : j = m := by omega
      go_wp2_with fail
      obtain ⟨d0, d1, d2, _, _, _⟩ := (bx.set (.int .i64 k) (.int .i64 n) (.slice p l cp)).facts
      obtain ⟨rfl, hcf, hX, hS⟩ := H.out
      have ne : w.heap.size < w.heap.size + 2 := by omega
      refine bodyPost_ret (v := .agg #[.int .i64 k, .int .i64 n, .slice p (len f) cp]) (by simp [results, Tryz.results8, go_sem, d0, d1, d2]) rfl ⟨⟨_, rfl, ?_⟩, ?_⟩
      · rw [← HS.out.1, List.take_length] at hX
        rw [hX]
        exact ⟨p, ⟨cp, hcf⟩, rfl, (((hS.setFresh (x := ⟨w.heap.size, 0, none⟩) ne (.int .i64 k)).setFresh (x := ⟨w.heap.size, 1, none⟩) ne (.int .i64 n)).setFresh (x := ⟨w.heap.size, 2, none⟩) ne (.slice p (len f) cp)).mono fun b (h : w.heap.size + 2 ≤ b) => show w.heap.size ≤ b by omega⟩
      · exact ((hb.setCell (p := ⟨w.heap.size, 0, none⟩) (Nat.le_refl _) (.int .i64 k)).setCell (p := ⟨w.heap.size, 1, none⟩) (Nat.le_refl _) (.int .i64 n)).setCell (p := ⟨w.heap.size, 2, none⟩) (Nat.le_refl _) (.slice p (len f) cp)
end Go.Proofs.YthfjmcomhccbaaaGreatDoor
