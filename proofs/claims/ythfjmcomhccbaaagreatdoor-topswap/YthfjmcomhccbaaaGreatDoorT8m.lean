/-
  A trial's contracts of package canon: Show, where nothing is bound.
-/
/-
  What the statement TopSwap asks, reckoned.
-/
import Derived.Test.YthfjmcomhccbaaaGreatDoorTS3m
namespace Go.Proofs.YthfjmcomhccbaaaGreatDoor
open Go.RowKit Tmx Evx
set_option maxRecDepth 60000

/-- What a term of that type comes to, as a text, with declarations. -/
def showD (s m k : Nat) (l : List Dcl) (x y : X3) : Option (List UInt8) := showV s m k (later ⟨0, 0, bodies l⟩ x.1 x.2.1 x.2.2 []) (later ⟨0, 0, bodies l⟩ y.1 y.2.1 y.2.2 [])

set_option maxHeartbeats 4000000 in
theorem showTop_any (s m kk : Nat) (hm : m ≤ 1000000) (p q q2 : Option Addr) (cap c c2 : Nat) (D : List (Int × Int × F)) (k n k2 n2 : Int) (f f2 : F) (r : List UInt8) (w : World) (hV : Vs w.heap.size w) (hd : DefsAt (old w) w p D) (hD : D.length ≤ 1000) (hc : len f ≤ c) (hq : SlO (old w) w q f) (hc2 : len f2 ≤ c2) (hq2 : SlO (old w) w q2 f2) (hk : k ≠ 1) (hk2 : k2 ≠ 1)
    (hr : showV s m kk (later ⟨0, 0, D⟩ k n f []) (later ⟨0, 0, D⟩ k2 n2 f2 []) = some r) (hrl : r.length ≤ 1000) (hkk : kk ≤ 1000) :
    Calls Tryz.prog 10 #[.slice p D.length cap, .agg #[.int .i64 k, .int .i64 n, .slice q (len f) c], .agg #[.int .i64 k2, .int .i64 n2, .slice q2 (len f2) c2]] w fun e w' => e = .returned (.string ⟨r.toArray⟩) ∧ Below w.heap.size w w' := by
  obtain ⟨g1, hs1, ht1⟩ := boxed (k := k) (n := n) hc hq
  obtain ⟨g2, hs2, hmo2, ht2⟩ := boxed2 hs1 (k := k2) (n := n2) hc2 hq2
  have hmo := hs2.mor (inv00 w)
  have HM := newMaker_any p cap 0 D g2 _ hs2.inv (fun i d e => let ⟨b, o, e1, h1, h2⟩ := hd i d e; ⟨b, o, e1, h1.along hmo.o hmo.same, h2⟩) hD
  have HR := (show Hid _ from And.intro hr (And.intro hrl (And.intro hV hkk)))
  have ht1' := ht1.mor hmo2
  obtain ⟨nd, hnd⟩ : ∃ nd, D.length = nd := ⟨_, rfl⟩
  obtain ⟨l, hlf⟩ : ∃ l, len f = l := ⟨_, rfl⟩
  obtain ⟨l2, hlf2⟩ : ∃ l, len f2 = l := ⟨_, rfl⟩
  have hz : (w.alloc (.cells #[.int .i64 k, .int .i64 n, .slice q (len f) c] 30)).heap.size = w.heap.size + 1 := World.size_alloc _ _
  rw [hz] at ht2
  rw [hnd] at HM ⊢
  rw [hlf] at HM hs2 ht1' ht2 ⊢
  rw [hlf2] at HM hs2 ht1' ht2 ⊢
  have HT := (show Hid _ from And.intro hs2 (And.intro ht1' ht2))
  unfold ptr at *
  clear hs1 ht1 hs2 ht1' ht2 hmo2 hmo hd hc hq hc2 hq2 hr hrl hV hkk hnd hlf hlf2 hD hz
  go_enter Tryz.func10, Tryz.ntmps10
  go_wp2_with fail
  refine HM.mono ?_
  rintro e w1 ⟨g3, bm, rfl, hs3, hM3⟩
  have hb1 : Below w1.heap.size w1 (w1.alloc (.cells #[.slice none 0 0, .slice none 0 0] 53)) := (Below.refl _ _).alloc (Nat.le_refl _) _
  have hsb := Ste.below hs3.inv hb1
  have h3b := hs3.trans hsb
  have hSh : ShIn g3 w (w1.alloc (.cells #[.slice none 0 0, .slice none 0 0] 53)) w1.heap.size (.slice none 0 0) (.slice none 0 0) [] [] :=
    ⟨(HT.out.1.trans hs3).keep.size, ⟨hs3.inv.l_new (Nat.le_refl _), hs3.inv.o_new (Nat.le_refl _)⟩, Blk.new _ _ _, BytesIn.nil _ _, fun b hb => by simp [Value.ownBlock] at hb, ⟨[], World.ownsRow_nil _ _ _ _, rfl⟩, fun b hb => by simp [Value.ownBlock] at hb⟩
  have hT1 := HT.out.2.1.mor (h3b.mor HT.out.1.inv)
  have hT2 := HT.out.2.2.mor (h3b.mor HT.out.1.inv)
  have hM3b := hM3.along (hsb.mor hs3.inv)
  have HL := mlater_any bm w.heap.size 0 ⟨0, 0, D⟩ k n f none 0 [] g3 _ hsb.inv hM3b hT1 (fun h => absurd h (by simp)) (by simp) (fun h => absurd h hk)
  have HB := (show Hid _ from And.intro (HT.out.1.trans h3b) (And.intro hM3b (And.intro hT2 hSh)))
  rw [List.length_nil] at HL
  unfold ptr at *
  clear hs3 hM3 HM hT1 hT2 HT hSh hM3b hsb h3b hb1
  go_wp2_with fail
  refine HL.mono ?_
  rintro e w2 ⟨g4, b4, rfl, hs4, hl4⟩
  have HL2 := mlater_any bm (w.heap.size + 1) 0 ⟨0, 0, D⟩ k2 n2 f2 none 0 [] g4 w2 hs4.inv (HB.out.2.1.along (hs4.mor HB.out.1.inv)) (HB.out.2.2.1.mor (hs4.mor HB.out.1.inv)) (fun h => absurd h (by simp)) (by simp) (fun h => absurd h hk2)
  have HB2 := (show Hid _ from And.intro (HB.out.1.trans hs4) (And.intro hl4 (HB.out.2.2.2.ste hs4)))
  rw [List.length_nil] at HL2
  unfold ptr at *
  clear hs4 hl4 HL HB
  go_wp2_with fail
  refine HL2.mono ?_
  rintro e w3 ⟨g5, b5, rfl, hs5, hl5⟩
  have hI3 := HB2.out.2.2.ste hs5
  have hA5 : Below w3.heap.size w3 (w3.alloc (.cells #[.string ⟨#[]⟩, .pointer (some ⟨b4, 0, none⟩), .pointer (some ⟨b5, 0, none⟩)] 56)) := (Below.refl _ _).alloc (Nat.le_refl _) _
  have hsA := Ste.below hs5.inv hA5
  have hst := (HB2.out.1.trans hs5).trans hsA
  have HN := next_any w1.heap.size w3.heap.size 1 [.inr (later ⟨0, 0, D⟩ k n f [], later ⟨0, 0, D⟩ k2 n2 f2 [])] [.string ⟨#[]⟩, .pointer (some ⟨b4, 0, none⟩), .pointer (some ⟨b5, 0, none⟩)] [] [] (.slice none 0 0) (.slice none 0 0) (g00 w) g5 w _ hst (hI3.ste hsA) (Blk.new _ _ _) (by simp [Value.ownBlock])
    ⟨_, _, _, _, rfl, ⟨rfl, ⟨b4, rfl, hs5.le.l _ _ HB2.out.2.1⟩, ⟨b5, rfl, hl5⟩⟩, rfl⟩ (by simp) (by simp) (by simp)
  unfold ptr at *
  clear hs5 hl5 HL2 HB2 hI3 hA5 hsA hst
  go_wp2_with fail
  refine HN.mono ?_
  rintro e w4 ⟨rfl, g6, hs6, _, _, hS6⟩
  have HA := all_out s m hm w1.heap.size kk [] r _ (g00 w) g6 w w4 hs6 hS6 HR.out.1 (by have := HR.out.2.1; simp; omega) (by have := HR.out.2.2.2; simp; omega)
  unfold ptr at *
  clear hs6 hS6 HN
  go_wp2_with fail
  refine HA.mono ?_
  rintro e w5 ⟨rfl, g7, hs7⟩
  have HF : Hid (Below w.heap.size w w5) := below00 hs7
  clear hs7 HA
  go_wp2_with fail
  refine bodyPost_ret (v := .string ⟨r.toArray⟩) (by simp [results, Tryz.results10, go_sem]) rfl ⟨rfl, HF.out⟩

/-- Show, of declarations that were taken. -/
theorem show_decls (s m kk : Nat) (hm : m ≤ 1000000) (l : List Dcl) (p q q2 : Option Addr) (cap c c2 nn : Nat) (k n k2 n2 : Int) (f f2 : F) (r : List UInt8) (w : World) (hV : Vs w.heap.size w) (hl : l.length = nn) (hd : DlAt w p l) (hn : ∀ x, x ∈ l → x.T.1 ≠ 1 ∧ x.B.1 ≠ 1) (hnn : nn ≤ 1000) (hc : len f ≤ c) (hq : SlO (old w) w q f) (hc2 : len f2 ≤ c2) (hq2 : SlO (old w) w q2 f2) (hk : k ≠ 1) (hk2 : k2 ≠ 1)
    (hr : showD s m kk l (k, n, f) (k2, n2, f2) = some r) (hrl : r.length ≤ 1000) (hkk : kk ≤ 1000 := by decide) :
    Calls Tryz.prog 10 #[.slice p nn cap, .agg #[.int .i64 k, .int .i64 n, .slice q (len f) c], .agg #[.int .i64 k2, .int .i64 n2, .slice q2 (len f2) c2]] w fun e w' => e = .returned (.string ⟨r.toArray⟩) ∧ Below w.heap.size w w' := by
  subst hl
  have h := hd.ds cap hn hnn
  have := showTop_any s m kk hm p q q2 cap c c2 (bodies l) k n k2 n2 f f2 r w hV h.defs (by rw [bodies, List.length_map]; exact hnn) hc hq hc2 hq2 hk hk2 hr hrl hkk
  rw [show (bodies l).length = l.length from List.length_map _] at this
  exact this
end Go.Proofs.YthfjmcomhccbaaaGreatDoor

namespace Go.Proofs.YthfjmcomhccbaaaGreatDoor
open Go.RowKit Tmx Evx
set_option maxRecDepth 60000

def sigF : F := nd 14 0 .nil (nd 14 0 .nil .nil)
def sigX : X3 := (6, 0, sigF)
def pairF (a b : Nat) : F := nd 14 0 .nil (nd 14 0 .nil (nd (numX a).1 (numX a).2.1 (numX a).2.2 (nd (numX b).1 (numX b).2.1 (numX b).2.2 .nil)))
def pairX (a b : Nat) : X3 := (7, 0, pairF a b)
def callF (d : Int) (k n : Int) (f : F) : F := nd 18 d .nil (nd k n f .nil)
def onceF (a b : Nat) : F := callF 2 7 0 (pairF a b)
def twiceF (a b : Nat) : F := callF 2 5 0 (onceF a b)
def swapB (a b : Nat) : Bool := match showD 60 400 8 sumsD (5, 0, onceF a b) sigX, showD 60 400 8 sumsD (pairX b a) sigX, showD 60 400 8 sumsD (5, 0, twiceF a b) sigX, showD 60 400 8 sumsD (pairX a b) sigX with
  | some x, some y, some z, some u => (x == y) && (z == u) && decide (x.length ≤ 1000) && decide (z.length ≤ 1000)
  | _, _, _, _ => false
def allP2 (n : Nat) (P : Nat → Nat → Bool) : Bool := (List.range n).all fun a => (List.range n).all fun b => P a b
theorem swap_counted : allP2 13 swapB = true := by kernel_rfl
theorem swap_at {a b : Nat} (ha : a ≤ 12) (hb : b ≤ 12) : ∃ x z : List UInt8, showD 60 400 8 sumsD (5, 0, onceF a b) sigX = some x ∧ showD 60 400 8 sumsD (pairX b a) sigX = some x ∧ showD 60 400 8 sumsD (5, 0, twiceF a b) sigX = some z ∧ showD 60 400 8 sumsD (pairX a b) sigX = some z ∧ x.length ≤ 1000 ∧ z.length ≤ 1000 := by
  have h := swap_counted
  rw [allP2, List.all_eq_true] at h
  have h1 := List.all_eq_true.1 (h a (List.mem_range.2 (by omega))) b (List.mem_range.2 (by omega))
  unfold swapB at h1
  split at h1
  · rename_i x y z u e1 e2 e3 e4
    simp only [Bool.and_eq_true, beq_iff_eq, decide_eq_true_eq] at h1
    obtain ⟨⟨⟨rfl, rfl⟩, h2⟩, h3⟩ := h1
    exact ⟨x, z, e1, e2, e3, e4, h2, h3⟩
  · cases h1
end Go.Proofs.YthfjmcomhccbaaaGreatDoor
