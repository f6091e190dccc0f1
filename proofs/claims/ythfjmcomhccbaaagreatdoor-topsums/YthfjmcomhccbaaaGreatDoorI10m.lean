/-
  Contracts of package infer: count.
-/
/-
  Contracts of package infer: pair.
-/
/-
  Contracts of package infer: wrong.
-/
import Derived.Test.YthfjmcomhccbaaaGreatDoorI5m
import Derived.Test.YthfjmcomhccbaaaGreatDoorB3m
namespace Go.Proofs.YthfjmcomhccbaaaGreatDoor
open Go.RowKit Tmx Evx
set_option maxRecDepth 60000

def countTypeV (s cf : Nat) (rec : Finds) (D : List (Int × Int × F)) (Ts : List Th) (c z m n : Int × Int × F) : Option Th :=
  match sortV s rec (Ts ++ [natT]) c.1 c.2.1 c.2.2 with
  | none => none
  | some _ =>
    if checkV s cf rec Ts z.1 z.2.1 z.2.2 (behindV D Ts.length c (.of (.mk 15 0 []))) = true ∧ moreV s cf rec D Ts c m = true ∧ checkV s cf rec Ts n.1 n.2.1 n.2.2 natT = true then
      some (behindV D Ts.length c (hereV D Ts.length n.1 n.2.1 n.2.2)) else none

set_option maxHeartbeats 8000000 in
theorem icount_any {rec : Finds} {vd : Ds} {D : List (Int × Int × F)} (hI : InfersP rec vd D) (s cf bs ta oa tz oz tm om tn on : Nat) (c z m n : Int × Int × F) (T : Th) (Ts : List Th) (g0 g : Gh) (w0 w : World) (hs : Ste g0 w0 g w) (hH : ScopeAt g w0 w bs vd D Ts) (hT : Ts.length + 2 ≤ 100000)
    (hta : TmAt g.o w ta oa c.1 c.2.1 c.2.2) (htz : TmAt g.o w tz oz z.1 z.2.1 z.2.2) (htm : TmAt g.o w tm om m.1 m.2.1 m.2.2) (htn : TmAt g.o w tn on n.1 n.2.1 n.2.2)
    (hnc : c.1 = 1 → 0 ≤ c.2.1 ∧ c.2.1 ≤ 1099511627776) (hnn : n.1 = 1 → 0 ≤ n.2.1 ∧ n.2.1 ≤ 1099511627776) (hcf : cf ≤ 400000) (hc : countTypeV s cf rec D Ts c z m n = some T) :
    Calls Tryz.prog 164 #[ptr bs, .pointer (some ⟨ta, oa, none⟩), .pointer (some ⟨tz, oz, none⟩), .pointer (some ⟨tm, om, none⟩), .pointer (some ⟨tn, on, none⟩)] w fun e w' => ∃ g' b, e = .returned (.tuple #[ptr b, .int .i64 0]) ∧ ScopeP g0 w0 g w bs vd D Ts g' w' ∧ g'.l b = some T := by
  obtain ⟨h, hh, hz, hm, hn, rfl⟩ : ∃ h, sortV s rec (Ts ++ [natT]) c.1 c.2.1 c.2.2 = some h ∧ checkV s cf rec Ts z.1 z.2.1 z.2.2 (behindV D Ts.length c (.of (.mk 15 0 []))) = true ∧ moreV s cf rec D Ts c m = true ∧ checkV s cf rec Ts n.1 n.2.1 n.2.2 natT = true ∧ behindV D Ts.length c (hereV D Ts.length n.1 n.2.1 n.2.2) = T := by
    unfold countTypeV at hc
    split at hc
    · cases hc
    · rename_i h hh
      split at hc
      · rename_i hx
        exact ⟨h, hh, hx.1, hx.2.1, hx.2.2, Option.some.inj hc⟩
      · cases hc
  have HP0 : Hid (ScopeP g0 w0 g w bs vd D Ts g w) := .of hs hH (.refl hs.inv)
  have HN : Calls Tryz.prog 54 #[.int .i64 14, .slice none 0 0] w (LatP g w natT) := of_any 14 none 0 [] g w hs.inv (RowL.nil _ _ _) (Nat.zero_le _)
  have HS : Hid ((TmAt g.o w ta oa c.1 c.2.1 c.2.2 ∧ TmAt g.o w tz oz z.1 z.2.1 z.2.2 ∧ TmAt g.o w tm om m.1 m.2.1 m.2.2 ∧ TmAt g.o w tn on n.1 n.2.1 n.2.2) ∧ (c.1 = 1 → 0 ≤ c.2.1 ∧ c.2.1 ≤ 1099511627776) ∧ (n.1 = 1 → 0 ≤ n.2.1 ∧ n.2.1 ≤ 1099511627776)) := ⟨⟨hta, htz, htm, htn⟩, hnc, hnn⟩
  have HV : Hid (sortV s rec (Ts ++ [natT]) c.1 c.2.1 c.2.2 = some h ∧ checkV s cf rec Ts z.1 z.2.1 z.2.2 (behindV D Ts.length c (.of (.mk 15 0 []))) = true ∧ moreV s cf rec D Ts c m = true ∧ checkV s cf rec Ts n.1 n.2.1 n.2.2 natT = true) := ⟨hh, hz, hm, hn⟩
  have HI := (show Hid _ from hI)
  have HT : Hid (Ts.length + 2 ≤ 100000) := hT
  unfold ptr at *
  clear hs hH hta htz htm htn hnc hnn hc hI hh hz hm hn hT
  go_enter Tryz.func164, Tryz.ntmps164
  go_wp2_with fail
  refine HN.mono ?_
  rintro e w1 ⟨g1, q1, rfl, hs1, hl1⟩
  have HP1 : Hid (ScopeP g0 w0 g w bs vd D Ts g1 w1 ∧ g1.l q1 = some natT) := ⟨HP0.out.then hs1, hl1⟩
  have HW := sortWith_any HI.out s bs ta oa q1 c.1 c.2.1 h c.2.2 natT Ts g0 g1 w0 w1 HP1.out.1.ste HP1.out.1.at_ (by have := HT.out; omega) (HS.out.1.1.mor HP1.out.1.mor) hl1 HV.out.1
  unfold ptr at *
  clear hs1 hl1 HN HP0
  go_wp2_with fail
  refine HW.mono ?_
  rintro e w2 ⟨g2, rfl, hP2⟩
  have HP2 : Hid (ScopeP g0 w0 g w bs vd D Ts g2 w2 ∧ g2.l q1 = some natT) := ⟨HP1.out.1.trans hP2, hP2.mor.l _ _ HP1.out.2⟩
  have HO : Calls Tryz.prog 54 #[.int .i64 15, .slice none 0 0] w2 (LatP g2 w2 (.of (.mk 15 0 []))) := of_any 15 none 0 [] g2 w2 hP2.ste.inv (RowL.nil _ _ _) (Nat.zero_le _)
  unfold ptr at *
  clear hP2 HW HP1
  go_wp2_with fail
  refine HO.mono ?_
  rintro e w3 ⟨g3, q3, rfl, hs3, hl3⟩
  have HP3 : Hid (ScopeP g0 w0 g w bs vd D Ts g3 w3 ∧ g3.l q1 = some natT) := ⟨HP2.out.1.then hs3, hs3.le.l _ _ HP2.out.2⟩
  have ha3 : Ste g3 w3 g3 (w3.alloc (.cells #[.pointer (some ⟨q3, 0, none⟩)] 43)) := .below hs3.inv ((Below.refl _ _).alloc (Nat.le_refl _) _)
  have HP4 : Hid (ScopeP g0 w0 g w bs vd D Ts g3 (w3.alloc (.cells #[.pointer (some ⟨q3, 0, none⟩)] 43))) := HP3.out.1.then ha3
  have HA : Calls Tryz.prog 133 #[ptr bs, .pointer (some ⟨ta, oa, none⟩), .slice (some ⟨w3.heap.size, 0, none⟩) 1 1] (w3.alloc (.cells #[.pointer (some ⟨q3, 0, none⟩)] 43)) fun e w' => ∃ g' b, e = .returned (ptr b) ∧ Ste g3 (w3.alloc (.cells #[.pointer (some ⟨q3, 0, none⟩)] 43)) g' w' ∧ ScopeP g0 w0 g3 (w3.alloc (.cells #[.pointer (some ⟨q3, 0, none⟩)] 43)) bs vd D Ts g' w' ∧ g'.l b = some (behindV D Ts.length c (.of (.mk 15 0 []))) :=
    sval_any bs ta oa c.1 c.2.1 c.2.2 (some ⟨w3.heap.size, 0, none⟩) 1 [.of (.mk 15 0 [])] vd D Ts g0 g3 w0 _ HP4.out.ste HP4.out.at_ (by have := HT.out; omega) (HS.out.1.1.mor HP4.out.mor) (fun _ => ⟨_, _, rfl, Blk.new w3 _ _, row1 hl3⟩) (by simp) HS.out.2.1
  unfold ptr at *
  clear hs3 hl3 ha3 HO HP2
  go_wp2_with fail
  refine HA.mono ?_
  rintro e w5 ⟨g5, q5, rfl, hs5, _, hl5⟩
  have HP5 : Hid (ScopeP g0 w0 g w bs vd D Ts g5 w5 ∧ g5.l q1 = some natT) := ⟨HP4.out.then hs5, hs5.le.l _ _ HP3.out.2⟩
  have HC := check_any HI.out s cf bs tz oz q5 z.1 z.2.1 z.2.2 Ts _ g0 g5 w0 w5 HP5.out.1.ste HP5.out.1.at_ (by have := HT.out; omega) (HS.out.1.2.1.mor HP5.out.1.mor) hl5 hcf HV.out.2.1
  unfold ptr at *
  clear hs5 hl5 HA HP3 HP4
  go_wp2_with fail
  refine HC.mono ?_
  rintro e w6 ⟨g6, rfl, hP6⟩
  have HP6 : Hid (ScopeP g0 w0 g w bs vd D Ts g6 w6 ∧ g6.l q1 = some natT) := ⟨HP5.out.1.trans hP6, hP6.mor.l _ _ HP5.out.2⟩
  have HM := checkMore_any HI.out s cf bs ta oa tm om c m Ts g0 g6 w0 w6 HP6.out.1.ste HP6.out.1.at_ HT.out (HS.out.1.1.mor HP6.out.1.mor) (HS.out.1.2.2.1.mor HP6.out.1.mor) HS.out.2.1 hcf HV.out.2.2.1
  unfold ptr at *
  clear hP6 HC HP5
  go_wp2_with fail
  refine HM.mono ?_
  rintro e w7 ⟨g7, rfl, hP7⟩
  have HP7 : Hid (ScopeP g0 w0 g w bs vd D Ts g7 w7 ∧ g7.l q1 = some natT) := ⟨HP6.out.1.trans hP7, hP7.mor.l _ _ HP6.out.2⟩
  have HK := check_any HI.out s cf bs tn on q1 n.1 n.2.1 n.2.2 Ts _ g0 g7 w0 w7 HP7.out.1.ste HP7.out.1.at_ (by have := HT.out; omega) (HS.out.1.2.2.2.mor HP7.out.1.mor) HP7.out.2 hcf HV.out.2.2.2
  unfold ptr at *
  clear hP7 HM HP6
  go_wp2_with fail
  refine HK.mono ?_
  rintro e w8 ⟨g8, rfl, hP8⟩
  have HP8 : Hid (ScopeP g0 w0 g w bs vd D Ts g8 w8) := HP7.out.1.trans hP8
  have HN8 := sval_any bs tn on n.1 n.2.1 n.2.2 none 0 [] vd D Ts g0 g8 w0 w8 HP8.out.ste HP8.out.at_ (by have := HT.out; omega) (HS.out.1.2.2.2.mor HP8.out.mor) (RowL.nil _ _ _) (Nat.zero_le _) HS.out.2.2
  unfold ptr at *
  clear hP8 HK HP7
  go_wp2_with fail
  refine HN8.mono ?_
  rintro e w9 ⟨g9, q9, rfl, hs9, _, hl9⟩
  have HP9 : Hid (ScopeP g0 w0 g w bs vd D Ts g9 w9) := HP8.out.then hs9
  have ha9 : Ste g9 w9 g9 (w9.alloc (.cells #[.pointer (some ⟨q9, 0, none⟩)] 43)) := .below hs9.inv ((Below.refl _ _).alloc (Nat.le_refl _) _)
  have HP10 : Hid (ScopeP g0 w0 g w bs vd D Ts g9 (w9.alloc (.cells #[.pointer (some ⟨q9, 0, none⟩)] 43))) := HP9.out.then ha9
  have HZ : Calls Tryz.prog 133 #[ptr bs, .pointer (some ⟨ta, oa, none⟩), .slice (some ⟨w9.heap.size, 0, none⟩) 1 1] (w9.alloc (.cells #[.pointer (some ⟨q9, 0, none⟩)] 43)) fun e w' => ∃ g' b, e = .returned (ptr b) ∧ Ste g9 (w9.alloc (.cells #[.pointer (some ⟨q9, 0, none⟩)] 43)) g' w' ∧ ScopeP g0 w0 g9 (w9.alloc (.cells #[.pointer (some ⟨q9, 0, none⟩)] 43)) bs vd D Ts g' w' ∧ g'.l b = some (behindV D Ts.length c (hereV D Ts.length n.1 n.2.1 n.2.2)) :=
    sval_any bs ta oa c.1 c.2.1 c.2.2 (some ⟨w9.heap.size, 0, none⟩) 1 [hereV D Ts.length n.1 n.2.1 n.2.2] vd D Ts g0 g9 w0 _ HP10.out.ste HP10.out.at_ (by have := HT.out; omega) (HS.out.1.1.mor HP10.out.mor) (fun _ => ⟨_, _, rfl, Blk.new w9 _ _, row1 hl9⟩) (by simp) HS.out.2.1
  unfold ptr at *
  clear hs9 hl9 ha9 HN8 HP8 HP9
  go_wp2_with fail
  refine HZ.mono ?_
  rintro e w11 ⟨g11, q11, rfl, hs11, _, hl11⟩
  have HF : Hid (ScopeP g0 w0 g w bs vd D Ts g11 w11 ∧ g11.l q11 = some (behindV D Ts.length c (hereV D Ts.length n.1 n.2.1 n.2.2))) := ⟨HP10.out.then hs11, hl11⟩
  clear hs11 hl11 HZ HP10
  go_wp2_with fail
  refine bodyPost_ret (v := .tuple #[.pointer (some ⟨q11, 0, none⟩), .int .i64 0]) (by simp [results, Tryz.results164, go_sem]) rfl ⟨g11, q11, rfl, HF.out.1, HF.out.2⟩
end Go.Proofs.YthfjmcomhccbaaaGreatDoor

namespace Go.Proofs.YthfjmcomhccbaaaGreatDoor
open Go.RowKit Tmx Evx
set_option maxRecDepth 60000

/-- The first ones. -/
def topF : Nat → F → F
  | 0, _ => .nil
  | _ + 1, .nil => .nil
  | i + 1, .node x y a l r => .node x y a l (topF i r)
theorem RowO.top {O : Nat → Prop} {w : World} : ∀ (i : Nat) (f : F) (b o : Nat), RowO O w b o f → RowO O w b o (topF i f)
  | 0, _, _, _, _ => by rw [topF]; trivial
  | _ + 1, .nil, _, _, _ => trivial
  | i + 1, .node x y a l r, b, o, ⟨h0, h1, h2, h3, h4⟩ => ⟨h0, h1, h2, h3, RowO.top i r b (o + 3) h4⟩
theorem topF_len : ∀ (i : Nat) (f : F), i ≤ len f → len (topF i f) = i
  | 0, _, _ => rfl
  | _ + 1, .nil, h => by simp [len] at h
  | i + 1, .node _ _ _ _ r, h => by
    rw [len] at h
    rw [topF, len, topF_len i r (by omega)]
/-- A term's argument. -/
def argAt (f : F) (i : Nat) : Int × Int × F := match drop i f with
  | .node _ _ a l _ => (a.1, a.2, l)
  | .nil => (0, 0, .nil)
theorem SlO.arg {O : Nat → Prop} {w : World} {q : Option Addr} {f : F} (hs : SlO O w q f) (h0 : 0 < len f) : ∃ b o, q = some ⟨b, o, none⟩ ∧ RowO O w b o f ∧ ∀ i, i < len f → TmAt O w b (o + i * 3) (argAt f i).1 (argAt f i).2.1 (argAt f i).2.2 := by
  obtain ⟨b, o, h1, h2⟩ := hs
  refine ⟨b, o, h1 h0, h2, fun i hi => ?_⟩
  obtain ⟨x, y, ⟨k, n⟩, l, r, p, cap, e, hb, c0, c1, c2, hs⟩ := RowO.at i f b o h2 hi
  unfold argAt
  rw [e]
  exact ⟨hb, p, cap, c0, c1, c2, hs⟩
theorem fine_arg : ∀ (f : F) (i : Nat), fine f = true → i < len f → (argAt f i).1 = 1 → 0 ≤ (argAt f i).2.1 ∧ (argAt f i).2.1 ≤ 1099511627776
  | .nil, _, _, h => by simp [len] at h
  | .node x y a l r, 0, hf, _ => by
    intro h1
    change a.1 = 1 at h1
    simp only [fine, Bool.and_eq_true, Bool.or_eq_true, bne_iff_ne, ne_eq, mild, decide_eq_true_eq] at hf
    rcases hf.1 with h | h
    · exact absurd h1 h
    · exact ⟨h.1, h.2.2⟩
  | .node x y a l r, i + 1, hf, hi => by
    rw [len] at hi
    simp only [fine, Bool.and_eq_true] at hf
    exact fine_arg r i hf.2 (by omega)

def pairV (s cf : Nat) (rec : Finds) (D : List (Int × Int × F)) (Ts : List Th) (f : F) : Option Th :=
  match familyV s rec D Ts (argAt f 0) (argAt f 1) with
  | none => none
  | some _ =>
    if checkV s cf rec Ts (argAt f 2).1 (argAt f 2).2.1 (argAt f 2).2.2 (hereV D Ts.length (argAt f 0).1 (argAt f 0).2.1 (argAt f 0).2.2) = true ∧
      checkV s cf rec Ts (argAt f 3).1 (argAt f 3).2.1 (argAt f 3).2.2 (behindV D Ts.length (argAt f 1) (hereV D Ts.length (argAt f 2).1 (argAt f 2).2.1 (argAt f 2).2.2)) = true then
      some (hereV D Ts.length 6 0 (topF 2 f)) else none

set_option maxHeartbeats 8000000 in
theorem ipair_any {rec : Finds} {vd : Ds} {D : List (Int × Int × F)} (hI : InfersP rec vd D) (s cf bs cap : Nat) (q : Option Addr) (f : F) (T : Th) (Ts : List Th) (g0 g : Gh) (w0 w : World) (hs : Ste g0 w0 g w) (hH : ScopeAt g w0 w bs vd D Ts) (hT : Ts.length + 2 ≤ 100000)
    (hq : SlO g.o w q f) (hl : len f = 4) (hf : fine f = true) (hcap : 4 ≤ cap) (hcf : cf ≤ 400000) (hc : pairV s cf rec D Ts f = some T) :
    Calls Tryz.prog 161 #[ptr bs, .slice q 4 cap] w fun e w' => ∃ g' b, e = .returned (.tuple #[ptr b, .int .i64 0]) ∧ ScopeP g0 w0 g w bs vd D Ts g' w' ∧ g'.l b = some T := by
  obtain ⟨h, hh, ha, hb, rfl⟩ : ∃ h, familyV s rec D Ts (argAt f 0) (argAt f 1) = some h ∧ checkV s cf rec Ts (argAt f 2).1 (argAt f 2).2.1 (argAt f 2).2.2 (hereV D Ts.length (argAt f 0).1 (argAt f 0).2.1 (argAt f 0).2.2) = true ∧
      checkV s cf rec Ts (argAt f 3).1 (argAt f 3).2.1 (argAt f 3).2.2 (behindV D Ts.length (argAt f 1) (hereV D Ts.length (argAt f 2).1 (argAt f 2).2.1 (argAt f 2).2.2)) = true ∧ hereV D Ts.length 6 0 (topF 2 f) = T := by
    unfold pairV at hc
    split at hc
    · cases hc
    · rename_i h hh
      split at hc
      · rename_i hx
        exact ⟨h, hh, hx.1, hx.2, Option.some.inj hc⟩
      · cases hc
  obtain ⟨tb, o, rfl, hrow, hat⟩ := hq.arg (by omega)
  have fa := fun i hi => fine_arg f i hf (by rw [hl]; exact hi)
  have a0 : TmAt g.o w tb o (argAt f 0).1 (argAt f 0).2.1 (argAt f 0).2.2 := hat 0 (by omega)
  have a1 : TmAt g.o w tb (o + 3) (argAt f 1).1 (argAt f 1).2.1 (argAt f 1).2.2 := hat 1 (by omega)
  have a2 : TmAt g.o w tb (o + 6) (argAt f 2).1 (argAt f 2).2.1 (argAt f 2).2.2 := hat 2 (by omega)
  have a3 : TmAt g.o w tb (o + 9) (argAt f 3).1 (argAt f 3).2.1 (argAt f 3).2.2 := hat 3 (by omega)
  have f0 := fa 0 (by omega)
  have f1 := fa 1 (by omega)
  have f2 := fa 2 (by omega)
  have f3 := fa 3 (by omega)
  clear fa hat
  have htop : len (topF 2 f) = 2 := topF_len 2 f (by omega)
  have HR : Hid (RowO g.o w tb o (topF 2 f) ∧ len (topF 2 f) = 2) := ⟨RowO.top 2 f tb o hrow, htop⟩
  obtain ⟨f2', hf2⟩ : ∃ x, topF 2 f = x := ⟨_, rfl⟩
  rw [hf2] at HR ⊢
  clear hrow htop hf2 hq hl hf hc
  generalize argAt f 0 = A0 at *
  generalize argAt f 1 = A1 at *
  generalize argAt f 2 = A2 at *
  generalize argAt f 3 = A3 at *
  have hdr := Ste.drew hs.inv
  have HP0 : Hid (ScopeP g0 w0 g w bs vd D Ts g w.drew) := .of hs hH hdr
  have H1 := family_any hI s bs tb o tb (o + 3) A0 A1 h Ts g0 g w0 w.drew HP0.out.ste HP0.out.at_ (by omega) (a0.mor HP0.out.mor) (a1.mor HP0.out.mor) f0 hh
  have HS : Hid ((TmAt g.o w tb o A0.1 A0.2.1 A0.2.2 ∧ TmAt g.o w tb (o + 3) A1.1 A1.2.1 A1.2.2 ∧ TmAt g.o w tb (o + 6) A2.1 A2.2.1 A2.2.2 ∧ TmAt g.o w tb (o + 9) A3.1 A3.2.1 A3.2.2) ∧ (A0.1 = 1 → 0 ≤ A0.2.1 ∧ A0.2.1 ≤ 1099511627776) ∧ (A1.1 = 1 → 0 ≤ A1.2.1 ∧ A1.2.1 ≤ 1099511627776) ∧ (A2.1 = 1 → 0 ≤ A2.2.1 ∧ A2.2.1 ≤ 1099511627776)) := ⟨⟨a0, a1, a2, a3⟩, f0, f1, f2⟩
  have HV : Hid (checkV s cf rec Ts A2.1 A2.2.1 A2.2.2 (hereV D Ts.length A0.1 A0.2.1 A0.2.2) = true ∧ checkV s cf rec Ts A3.1 A3.2.1 A3.2.2 (behindV D Ts.length A1 (hereV D Ts.length A2.1 A2.2.1 A2.2.2)) = true) := ⟨ha, hb⟩
  have HI := (show Hid _ from hI)
  have HT : Hid (Ts.length + 2 ≤ 100000) := hT
  unfold ptr at *
  clear hdr hs hH a0 a1 a2 a3 f0 f1 f2 f3 ha hb hh hI hT
  go_enter Tryz.func161, Tryz.ntmps161
  go_wp2_with fail
  go_region
  go_wp2_with fail
  refine H1.mono ?_
  rintro e w1 ⟨g1, q1, rfl, hP1, _⟩
  have HP1 : Hid (ScopeP g0 w0 g w bs vd D Ts g1 w1) := HP0.out.trans hP1
  have HA := sval_any bs tb o A0.1 A0.2.1 A0.2.2 none 0 [] vd D Ts g0 g1 w0 w1 HP1.out.ste HP1.out.at_ (by have := HT.out; omega) (HS.out.1.1.mor HP1.out.mor) (RowL.nil _ _ _) (Nat.zero_le _) HS.out.2.1
  unfold ptr at *
  clear hP1 H1 HP0
  go_wp2_with fail
  refine HA.mono ?_
  rintro e w2 ⟨g2, q2, rfl, hs2, _, hl2⟩
  have HP2 : Hid (ScopeP g0 w0 g w bs vd D Ts g2 w2) := HP1.out.then hs2
  have HC := check_any HI.out s cf bs tb (o + 6) q2 A2.1 A2.2.1 A2.2.2 Ts _ g0 g2 w0 w2 HP2.out.ste HP2.out.at_ (by have := HT.out; omega) (HS.out.1.2.2.1.mor HP2.out.mor) hl2 hcf HV.out.1
  unfold ptr at *
  clear hs2 hl2 HA HP1
  go_wp2_with fail
  refine HC.mono ?_
  rintro e w3 ⟨g3, rfl, hP3⟩
  have HP3 : Hid (ScopeP g0 w0 g w bs vd D Ts g3 w3) := HP2.out.trans hP3
  have HN := sval_any bs tb (o + 6) A2.1 A2.2.1 A2.2.2 none 0 [] vd D Ts g0 g3 w0 w3 HP3.out.ste HP3.out.at_ (by have := HT.out; omega) (HS.out.1.2.2.1.mor HP3.out.mor) (RowL.nil _ _ _) (Nat.zero_le _) HS.out.2.2.2
  unfold ptr at *
  clear hP3 HC HP2
  go_wp2_with fail
  refine HN.mono ?_
  rintro e w4 ⟨g4, q4, rfl, hs4, _, hl4⟩
  have HP4 : Hid (ScopeP g0 w0 g w bs vd D Ts g4 w4) := HP3.out.then hs4
  have ha4 : Ste g4 w4 g4 (w4.alloc (.cells #[.pointer (some ⟨q4, 0, none⟩)] 43)) := .below hs4.inv ((Below.refl _ _).alloc (Nat.le_refl _) _)
  have HP5 : Hid (ScopeP g0 w0 g w bs vd D Ts g4 (w4.alloc (.cells #[.pointer (some ⟨q4, 0, none⟩)] 43))) := HP4.out.then ha4
  have HB : Calls Tryz.prog 133 #[ptr bs, .pointer (some ⟨tb, o + 3, none⟩), .slice (some ⟨w4.heap.size, 0, none⟩) 1 1] (w4.alloc (.cells #[.pointer (some ⟨q4, 0, none⟩)] 43)) fun e w' => ∃ g' b, e = .returned (ptr b) ∧ Ste g4 (w4.alloc (.cells #[.pointer (some ⟨q4, 0, none⟩)] 43)) g' w' ∧ ScopeP g0 w0 g4 (w4.alloc (.cells #[.pointer (some ⟨q4, 0, none⟩)] 43)) bs vd D Ts g' w' ∧ g'.l b = some (behindV D Ts.length A1 (hereV D Ts.length A2.1 A2.2.1 A2.2.2)) :=
    sval_any bs tb (o + 3) A1.1 A1.2.1 A1.2.2 (some ⟨w4.heap.size, 0, none⟩) 1 [hereV D Ts.length A2.1 A2.2.1 A2.2.2] vd D Ts g0 g4 w0 _ HP5.out.ste HP5.out.at_ (by have := HT.out; omega) (HS.out.1.2.1.mor HP5.out.mor) (fun _ => ⟨_, _, rfl, Blk.new w4 _ _, row1 hl4⟩) (by simp) HS.out.2.2.1
  unfold ptr at *
  clear hs4 hl4 ha4 HN HP3 HP4
  go_wp2_with fail
  refine HB.mono ?_
  rintro e w6 ⟨g6, q6, rfl, hs6, _, hl6⟩
  have HP6 : Hid (ScopeP g0 w0 g w bs vd D Ts g6 w6) := HP5.out.then hs6
  have HC2 := check_any HI.out s cf bs tb (o + 9) q6 A3.1 A3.2.1 A3.2.2 Ts _ g0 g6 w0 w6 HP6.out.ste HP6.out.at_ (by have := HT.out; omega) (HS.out.1.2.2.2.mor HP6.out.mor) hl6 hcf HV.out.2
  unfold ptr at *
  clear hs6 hl6 HB HP5
  go_wp2_with fail
  refine HC2.mono ?_
  rintro e w7 ⟨g7, rfl, hP7⟩
  have HP7 : Hid (ScopeP g0 w0 g w bs vd D Ts g7 w7) := HP6.out.trans hP7
  clear hP7 HC2 HP6
  go_wp2_with fail
  have hN : Below w7.heap.size w7 (w7.alloc (.cells #[.int .i64 6, .int .i64 0, .slice (some ⟨tb, o, none⟩) 2 cap] 30)) := (Below.refl _ _).alloc (Nat.le_refl _) _
  obtain ⟨h8, hmo⟩ := (Ste.refl HP7.out.ste.inv).grow hN (fun b => b = w7.heap.size) (fun b h => by subst h; simp)
  have HP8 : Hid (ScopeP g0 w0 g w bs vd D Ts (g7.addO fun b => b = w7.heap.size) (w7.alloc (.cells #[.int .i64 6, .int .i64 0, .slice (some ⟨tb, o, none⟩) 2 cap] 30))) := HP7.out.then h8
  have htm : TmAt (g7.addO fun b => b = w7.heap.size).o (w7.alloc (.cells #[.int .i64 6, .int .i64 0, .slice (some ⟨tb, o, none⟩) 2 cap] 30)) w7.heap.size 0 6 0 f2' := by
    obtain ⟨z0, z1, z2, _, _, _⟩ := (Blk.new w7 #[.int .i64 6, .int .i64 0, .slice (some ⟨tb, o, none⟩) 2 cap] 30).three
    refine ⟨.inr rfl, some ⟨tb, o, none⟩, ⟨cap, by rw [HR.out.2]; omega⟩, z0, z1, by dsimp only; rw [HR.out.2]; exact z2, tb, o, fun _ => rfl, ?_⟩
    exact RowO.along HP8.out.mor.o HP8.out.mor.same f2' tb o HR.out.1
  have HZ := sval_any bs w7.heap.size 0 6 0 f2' none 0 [] vd D Ts g0 _ w0 _ HP8.out.ste HP8.out.at_ (by have := HT.out; omega) htm (RowL.nil _ _ _) (Nat.zero_le _) (fun e => absurd e (by decide))
  unfold ptr at HZ
  clear h8 hmo htm hN HP7
  refine HZ.mono ?_
  rintro e w9 ⟨g9, q9, rfl, hs9, _, hl9⟩
  have HF : Hid (ScopeP g0 w0 g w bs vd D Ts g9 w9 ∧ g9.l q9 = some (hereV D Ts.length 6 0 f2')) := ⟨HP8.out.then hs9, hl9⟩
  clear hs9 hl9 HZ HP8
  go_wp2_with fail
  refine bodyPost_ret (v := .tuple #[.pointer (some ⟨q9, 0, none⟩), .int .i64 0]) (by simp [results, Tryz.results161, go_sem]) rfl ⟨g9, q9, rfl, HF.out.1, HF.out.2⟩
end Go.Proofs.YthfjmcomhccbaaaGreatDoor

namespace Go.Proofs.YthfjmcomhccbaaaGreatDoor
open Go.RowKit Tmx Evx
set_option maxRecDepth 60000

set_option maxHeartbeats 4000000 in
theorem iwrong_any (tb o : Nat) (k n : Int) (f : F) (g : Gh) (w : World) (hi : Inv g w) (ht : TmAt g.o w tb o k n f) (hk : 1 ≤ k ∧ k ≤ 18) (hl : len f = (shpL k).length) :
    Calls Tryz.prog 152 #[.pointer (some ⟨tb, o, none⟩)] w fun e w' => e = .returned (.int .i64 0) ∧ Ste g w g w' := by
  have HB := fun w => binds_yes k w hk
  obtain ⟨ho, q, ⟨cap, _⟩, c0, _, c2, _⟩ := ht
  dsimp only at c2
  have hlt := (hi.o tb ho).2
  have HI : Hid (Inv g w) := hi
  rw [hl] at c2
  obtain ⟨m, hm⟩ : ∃ m, (shpL k).length = m := ⟨_, rfl⟩
  simp only [hm] at HB c2
  clear hi hk hl hm ho
  go_enter Tryz.func152, Tryz.ntmps152
  go_wp2_with fail
  refine (HB w).mono ?_
  rintro e w1 ⟨⟨b, rfl, _⟩, hb⟩
  have d2 : w1.cell? ⟨tb, o + 2, none⟩ = some (.slice q m cap) := by rw [hb.cell (p := ⟨tb, o + 2, none⟩) hlt]; exact c2
  have HS2 := (show Hid _ from Ste.below HI.out hb)
  clear hb HB c2 c0
  go_wp2_with fail
  refine bodyPost_ret (v := .int .i64 0) (by simp [results, Tryz.results152, go_sem]) rfl ⟨rfl, HS2.out⟩
end Go.Proofs.YthfjmcomhccbaaaGreatDoor
