/-
  Contracts of package infer: call; above.
-/
/-
  Contracts of package infer: bound.
-/
/-
  Contracts of package infer: half.
-/
/-
  Contracts of package infer: declared, checkMore.
-/
/-
  Contracts of package infer: checkMore.
-/
import Derived.Test.YthfjmcomhccbaaaGreatDoorI1m
namespace Go.Proofs.YthfjmcomhccbaaaGreatDoor
open Go.RowKit Tmx Evx
set_option maxRecDepth 60000

def callTypeV (s cf : Nat) (rec : Finds) (D : List (Int × Int × F)) (Ts : List Th) (f a : Int × Int × F) : Option Th :=
  match rec Ts f.1 f.2.1 f.2.2 with
  | none => none
  | some P => match ev s P with
    | none => none
    | some v => if v.is 3 2 = true then
        (match argV v 0 [] with
        | none => none
        | some A => if checkV s cf rec Ts a.1 a.2.1 a.2.2 A = true then argV v 1 [hereV D Ts.length a.1 a.2.1 a.2.2] else none)
      else none

set_option maxHeartbeats 4000000 in
theorem icall_any {rec : Finds} {vd : Ds} {D : List (Int × Int × F)} (hI : InfersP rec vd D) (s cf bs ta oa tb ob : Nat) (a b : Int × Int × F) (T : Th) (Ts : List Th) (g0 g : Gh) (w0 w : World) (hs : Ste g0 w0 g w) (hH : ScopeAt g w0 w bs vd D Ts) (hT : Ts.length ≤ 100000)
    (hta : TmAt g.o w ta oa a.1 a.2.1 a.2.2) (htb : TmAt g.o w tb ob b.1 b.2.1 b.2.2) (hn : b.1 = 1 → 0 ≤ b.2.1 ∧ b.2.1 ≤ 1099511627776) (hcf : cf ≤ 400000) (hc : callTypeV s cf rec D Ts a b = some T) :
    Calls Tryz.prog 160 #[ptr bs, .pointer (some ⟨ta, oa, none⟩), .pointer (some ⟨tb, ob, none⟩)] w fun e w' => ∃ g' b, e = .returned (.tuple #[ptr b, .int .i64 0]) ∧ ScopeP g0 w0 g w bs vd D Ts g' w' ∧ g'.l b = some T := by
  obtain ⟨P, v, A, hP, hv, hu, hA, hck, hB⟩ : ∃ P v A, rec Ts a.1 a.2.1 a.2.2 = some P ∧ ev s P = some v ∧ v.is 3 2 = true ∧ argV v 0 [] = some A ∧ checkV s cf rec Ts b.1 b.2.1 b.2.2 A = true ∧ argV v 1 [hereV D Ts.length b.1 b.2.1 b.2.2] = some T := by
    unfold callTypeV at hc
    split at hc
    · cases hc
    · rename_i P hP
      split at hc
      · cases hc
      · rename_i v hv
        split at hc
        · rename_i hu
          split at hc
          · cases hc
          · rename_i A hA
            split at hc
            · rename_i hck
              exact ⟨P, v, A, hP, hv, hu, hA, hck, hc⟩
            · cases hc
        · cases hc
  have H1 := hI bs ta oa a.1 a.2.1 a.2.2 Ts P g0 g w0 w hs hH hT hta hP
  have HS : Hid (TmAt g.o w tb ob b.1 b.2.1 b.2.2 ∧ ev s P = some v ∧ v.is 3 2 = true ∧ argV v 0 [] = some A ∧ checkV s cf rec Ts b.1 b.2.1 b.2.2 A = true ∧ argV v 1 [hereV D Ts.length b.1 b.2.1 b.2.2] = some T ∧ (b.1 = 1 → 0 ≤ b.2.1 ∧ b.2.1 ≤ 1099511627776)) := ⟨htb, hv, hu, hA, hck, hB, hn⟩
  have HI := (show Hid _ from hI)
  unfold ptr at *
  clear hs hH hta htb hn hc hP hv hu hA hck hB hI
  go_enter Tryz.func160, Tryz.ntmps160
  go_wp2_with fail
  refine H1.mono ?_
  rintro e w2 ⟨g2, b2, rfl, hP2, hl2⟩
  have HN := now_any b2 P v g2 w2 hP2.ste.inv hl2 ⟨s, HS.out.2.1⟩
  have HP2 := (show Hid _ from hP2)
  unfold ptr at *
  clear hP2 hl2 H1
  go_wp2_with fail
  refine HN.mono ?_
  rintro e w3 ⟨g3, q3, rfl, hs3, hv3⟩
  have HP3 : Hid (ScopeP g0 w0 g w bs vd D Ts g3 w3 ∧ g3.v q3 = some v) := ⟨HP2.out.then hs3, hv3⟩
  have HU : Calls Tryz.prog 21 #[.pointer (some ⟨q3, 0, none⟩), .int .i64 3, .int .i64 2] w3 fun e w' => e = .returned (.bool true) ∧ w' = w3 := HS.out.2.2.1 ▸ is_any q3 v 3 2 g3 w3 hs3.inv hv3
  have HA : Calls Tryz.prog 22 #[.pointer (some ⟨q3, 0, none⟩), .int .i64 0, .slice none 0 0] w3 (LatP g3 w3 A) := argV_any q3 0 v none 0 [] A g3 w3 hs3.inv hv3 (RowL.nil _ _ _) (Nat.zero_le _) HS.out.2.2.2.1
  unfold ptr at *
  clear hs3 hv3 HN HP2
  go_wp2_with (first | ((with_reducible refine HU.mono ?_); rintro e w4 ⟨rfl, rfl⟩))
  refine HA.mono ?_
  rintro e w5 ⟨g5, q5, rfl, hs5, hl5⟩
  have HP5 : Hid (ScopeP g0 w0 g w bs vd D Ts g5 w5 ∧ g5.v q3 = some v) := ⟨HP3.out.1.then hs5, hs5.le.v _ _ HP3.out.2⟩
  have HC := check_any HI.out s cf bs tb ob q5 b.1 b.2.1 b.2.2 Ts A g0 g5 w0 w5 HP5.out.1.ste HP5.out.1.at_ hT (HS.out.1.mor HP5.out.1.mor) hl5 hcf HS.out.2.2.2.2.1
  unfold ptr at *
  clear hs5 hl5 HA HU HP3
  go_wp2_with fail
  refine HC.mono ?_
  rintro e w6 ⟨g6, rfl, hP6⟩
  have HP6 : Hid (ScopeP g0 w0 g w bs vd D Ts g6 w6 ∧ g6.v q3 = some v) := ⟨HP5.out.1.trans hP6, hP6.mor.v _ _ HP5.out.2⟩
  have HV := sval_any bs tb ob b.1 b.2.1 b.2.2 none 0 [] vd D Ts g0 g6 w0 w6 hP6.ste hP6.at_ (by omega) (HS.out.1.mor HP6.out.1.mor) (RowL.nil _ _ _) (Nat.zero_le _) HS.out.2.2.2.2.2.2
  unfold ptr at *
  clear hP6 HC HP5
  go_wp2_with fail
  refine HV.mono ?_
  rintro e w7 ⟨g7, q7, rfl, hs7, _, hl7⟩
  have HP7 : Hid (ScopeP g0 w0 g w bs vd D Ts g7 w7 ∧ g7.v q3 = some v) := ⟨HP6.out.1.then hs7, hs7.le.v _ _ HP6.out.2⟩
  have hs8 : Ste g7 w7 g7 (w7.alloc (.cells #[.pointer (some ⟨q7, 0, none⟩)] 43)) := .below hs7.inv ((Below.refl _ _).alloc (Nat.le_refl _) _)
  have HA1 : Calls Tryz.prog 22 #[.pointer (some ⟨q3, 0, none⟩), .int .i64 1, .slice (some ⟨w7.heap.size, 0, none⟩) 1 1] (w7.alloc (.cells #[.pointer (some ⟨q7, 0, none⟩)] 43)) (LatP g7 (w7.alloc (.cells #[.pointer (some ⟨q7, 0, none⟩)] 43)) T) :=
    argV_any q3 1 v _ 1 [hereV D Ts.length b.1 b.2.1 b.2.2] T g7 _ hs8.inv HP7.out.2 (fun _ => ⟨_, _, rfl, Blk.new w7 _ _, row1 hl7⟩) (by simp) HS.out.2.2.2.2.2.1
  have HP8 : Hid (ScopeP g0 w0 g w bs vd D Ts g7 (w7.alloc (.cells #[.pointer (some ⟨q7, 0, none⟩)] 43))) := HP7.out.1.then hs8
  clear hs7 hl7 hs8 HV HP6 HP7
  go_wp2_with fail
  refine HA1.mono ?_
  rintro e w9 ⟨g9, q9, rfl, hs9, hl9⟩
  have HF : Hid (ScopeP g0 w0 g w bs vd D Ts g9 w9 ∧ g9.l q9 = some T) := ⟨HP8.out.then hs9, hl9⟩
  unfold ptr
  clear hs9 hl9 HA1 HP8
  go_wp2_with fail
  refine bodyPost_ret (v := .tuple #[.pointer (some ⟨q9, 0, none⟩), .int .i64 0]) (by simp [results, Tryz.results160, go_sem]) rfl ⟨g9, q9, rfl, HF.out.1, HF.out.2⟩

theorem above_any (h : Int) (g : Gh) (w : World) (hi : Inv g w) (h0 : 0 ≤ h) (h1 : h < 3) :
    Calls Tryz.prog 155 #[.int .i64 h] w fun e w' => ∃ g' b, e = .returned (.tuple #[ptr b, .int .i64 0]) ∧ Ste g w g' w' ∧ g'.l b = some (.val (.mk 2 (h + 1) [])) := by
  have HH : ∀ m, Calls Tryz.prog 156 #[.int .i64 m] w (LatP g w (.val (.mk 2 m []))) := fun m => height_any m g w hi
  have n0 : ¬ h < 0 := by omega
  have n1 : ¬ 3 ≤ h := by omega
  clear hi
  go_enter Tryz.func155, Tryz.ntmps155
  go_wp2_with fail
  refine (HH _).mono ?_
  rintro e w1 ⟨g1, b1, rfl, hs1, hl1⟩
  have HF : Hid (Ste g w g1 w1) := hs1
  have HL := (show Hid _ from hl1)
  unfold ptr
  clear hs1 hl1 HH
  go_wp2_with fail
  refine bodyPost_ret (v := .tuple #[.pointer (some ⟨b1, 0, none⟩), .int .i64 0]) (by simp [results, Tryz.results155, go_sem]) rfl ⟨g1, b1, rfl, HF.out, HL.out.trans (by congr 3; all_goals (try rw [wrapI _ (by omega) (by omega)]))⟩
end Go.Proofs.YthfjmcomhccbaaaGreatDoor

namespace Go.Proofs.YthfjmcomhccbaaaGreatDoor
open Go.RowKit Tmx Evx
set_option maxRecDepth 60000

theorem owns1_cell {w : World} {lo n : Nat} {e : TypeId} {v : Value} {xs : List Value} (h : w.ownsRow lo e 1 v n xs) (hn : 0 < n) : ∃ q cap, v = .slice (some ⟨q, 0, none⟩) n cap ∧ ∀ i x, xs[i]? = some x → w.cell? ⟨q, i, none⟩ = some x := by
  obtain ⟨hl, h1⟩ := h
  rcases h1 with ⟨_, h0⟩ | ⟨q, cap, cur, ev, _, hh, _, _, _, ht⟩
  · omega
  · refine ⟨q, cap, ev, fun i x hx => ?_⟩
    have hi := (List.getElem?_eq_some_iff.1 hx).1
    rw [cell_of_row w q _ cur e (0, 0) hh, ← Array.getElem?_toList]
    rw [← ht, List.getElem?_take, if_pos (by omega)] at hx
    exact hx

set_option maxHeartbeats 4000000 in
theorem bound_any (bs m : Nat) (vd : Ds) (D : List (Int × Int × F)) (T : Th) (Ts : List Th) (g0 g : Gh) (w0 w : World) (hs : Ste g0 w0 g w) (hH : ScopeAt g w0 w bs vd D Ts) (hT : Ts.length ≤ 100000) (hm : m < Ts.length) (ht : Ts[Ts.length - 1 - m]? = some T) :
    Calls Tryz.prog 153 #[ptr bs, .int .i64 (m : Int)] w fun e w' => ∃ b, e = .returned (.tuple #[ptr b, .int .i64 0]) ∧ ScopeP g0 w0 g w bs vd D Ts g w' ∧ g.l b = some T := by
  have HP : Hid (ScopeP g0 w0 g w bs vd D Ts g w.drew) := .of hs hH (.drew hs.inv)
  obtain ⟨pm, vt, hH⟩ := hH
  obtain ⟨xs, h1, h2⟩ := hH.types
  obtain ⟨q, cap, rfl, hcell⟩ := owns1_cell h1 (by omega)
  obtain ⟨x, hx, b, rfl, hb⟩ := h2.at ht
  have hc := hcell _ _ hx
  obtain ⟨_, _, c2, _, _, _⟩ := hH.blk.three
  have HB : Hid (g.l b = some T) := hb
  obtain ⟨j, hj⟩ : ∃ j, Ts.length - 1 - m = j := ⟨_, rfl⟩
  obtain ⟨l, hl⟩ : ∃ l, Ts.length = l := ⟨_, rfl⟩
  rw [hj] at hc
  rw [hl] at c2 hm hT hj
  have n0 : ¬ ((m : Int) < 0) := by omega
  have n1 : ¬ ((l : Int) ≤ (m : Int)) := by omega
  have e1 : IntKind.i64.wrap ((l : Int) - 1) = ((l - 1 : Nat) : Int) := by rw [wrapI _ (by omega) (by omega)]; omega
  have e2 : IntKind.i64.wrap (((l - 1 : Nat) : Int) - (m : Int)) = (j : Int) := by rw [wrapI _ (by omega) (by omega)]; omega
  have i1 : (0 : Int) ≤ (j : Int) := by omega
  have i2 : (j : Int) < (l : Int) := by omega
  unfold ptr at *
  clear hs hH h1 h2 hcell hx hb hj hl ht
  go_enter Tryz.func153, Tryz.ntmps153
  go_wp2_with fail
  go_region
  go_wp2_with fail
  refine bodyPost_ret (v := .tuple #[.pointer (some ⟨b, 0, none⟩), .int .i64 0]) (by simp [results, Tryz.results153, go_sem]) rfl ⟨b, rfl, HP.out, HB.out⟩
end Go.Proofs.YthfjmcomhccbaaaGreatDoor

namespace Go.Proofs.YthfjmcomhccbaaaGreatDoor
open Go.RowKit Tmx Evx
set_option maxRecDepth 60000

/-- A pair's type, worked out. -/
def sigV (s : Nat) (rec : Finds) (Ts : List Th) (p : Int × Int × F) : Option V :=
  match rec Ts p.1 p.2.1 p.2.2 with
  | none => none
  | some P => match ev s P with
    | none => none
    | some v => if v.is 6 2 = true then some v else none
theorem sigV_some {s : Nat} {rec : Finds} {Ts : List Th} {p : Int × Int × F} {v : V} (h : sigV s rec Ts p = some v) : ∃ P, rec Ts p.1 p.2.1 p.2.2 = some P ∧ ev s P = some v ∧ v.is 6 2 = true := by
  unfold sigV at h
  split at h
  · cases h
  · rename_i P hP
    split at h
    · cases h
    · rename_i v' hv
      split at h
      · rename_i hu
        obtain rfl := Option.some.inj h
        exact ⟨P, hP, hv, hu⟩
      · cases h

set_option maxHeartbeats 4000000 in
theorem ihalf1_any {rec : Finds} {vd : Ds} {D : List (Int × Int × F)} (hI : InfersP rec vd D) (s bs ta oa : Nat) (a : Int × Int × F) (v : V) (T : Th) (Ts : List Th) (g0 g : Gh) (w0 w : World) (hs : Ste g0 w0 g w) (hH : ScopeAt g w0 w bs vd D Ts) (hT : Ts.length ≤ 100000)
    (hta : TmAt g.o w ta oa a.1 a.2.1 a.2.2) (hv : sigV s rec Ts a = some v) (hc : argV v 0 [] = some T) :
    Calls Tryz.prog 162 #[ptr bs, .int .i64 8, .pointer (some ⟨ta, oa, none⟩)] w fun e w' => ∃ g' b, e = .returned (.tuple #[ptr b, .int .i64 0]) ∧ ScopeP g0 w0 g w bs vd D Ts g' w' ∧ g'.l b = some T := by
  obtain ⟨P, hP, hv, hu⟩ := sigV_some hv
  have H1 := hI bs ta oa a.1 a.2.1 a.2.2 Ts P g0 g w0 w hs hH hT hta hP
  have HS : Hid (TmAt g.o w ta oa a.1 a.2.1 a.2.2 ∧ ev s P = some v ∧ v.is 6 2 = true ∧ argV v 0 [] = some T) := ⟨hta, hv, hu, hc⟩
  unfold ptr at *
  clear hs hH hta hc hP hv hu hI
  go_enter Tryz.func162, Tryz.ntmps162
  go_wp2_with fail
  refine H1.mono ?_
  rintro e w2 ⟨g2, b2, rfl, hP2, hl2⟩
  have HN := now_any b2 P v g2 w2 hP2.ste.inv hl2 ⟨s, HS.out.2.1⟩
  have HP2 := (show Hid _ from hP2)
  unfold ptr at *
  clear hP2 hl2 H1
  go_wp2_with fail
  refine HN.mono ?_
  rintro e w3 ⟨g3, q3, rfl, hs3, hv3⟩
  have HP3 : Hid (ScopeP g0 w0 g w bs vd D Ts g3 w3 ∧ g3.v q3 = some v) := ⟨HP2.out.then hs3, hv3⟩
  have HU : Calls Tryz.prog 21 #[.pointer (some ⟨q3, 0, none⟩), .int .i64 6, .int .i64 2] w3 fun e w' => e = .returned (.bool true) ∧ w' = w3 := HS.out.2.2.1 ▸ is_any q3 v 6 2 g3 w3 hs3.inv hv3
  have HA : Calls Tryz.prog 22 #[.pointer (some ⟨q3, 0, none⟩), .int .i64 0, .slice none 0 0] w3 (LatP g3 w3 T) := argV_any q3 0 v none 0 [] T g3 w3 hs3.inv hv3 (RowL.nil _ _ _) (Nat.zero_le _) HS.out.2.2.2
  unfold ptr at *
  clear hs3 hv3 HN HP2
  go_wp2_with (first | ((with_reducible refine HU.mono ?_); rintro e w4 ⟨rfl, rfl⟩))
  refine HA.mono ?_
  rintro e w5 ⟨g5, q5, rfl, hs5, hl5⟩
  have HF : Hid (ScopeP g0 w0 g w bs vd D Ts g5 w5 ∧ g5.l q5 = some T) := ⟨HP3.out.1.then hs5, hl5⟩
  unfold ptr
  clear hs5 hl5 HA HU HP3
  go_wp2_with fail
  refine bodyPost_ret (v := .tuple #[.pointer (some ⟨q5, 0, none⟩), .int .i64 0]) (by simp [results, Tryz.results162, go_sem]) rfl ⟨g5, q5, rfl, HF.out.1, HF.out.2⟩

set_option maxHeartbeats 4000000 in
theorem ihalf2_any {rec : Finds} {vd : Ds} {D : List (Int × Int × F)} (hI : InfersP rec vd D) (s bs ta oa : Nat) (a : Int × Int × F) (v : V) (T : Th) (Ts : List Th) (g0 g : Gh) (w0 w : World) (hs : Ste g0 w0 g w) (hH : ScopeAt g w0 w bs vd D Ts) (hT : Ts.length ≤ 100000)
    (hta : TmAt g.o w ta oa a.1 a.2.1 a.2.2) (hn : a.1 = 1 → 0 ≤ a.2.1 ∧ a.2.1 ≤ 1099511627776) (hv : sigV s rec Ts a = some v) (hc : argV v 1 [.of (.mk 8 0 [.plain (hereV D Ts.length a.1 a.2.1 a.2.2)])] = some T) :
    Calls Tryz.prog 162 #[ptr bs, .int .i64 9, .pointer (some ⟨ta, oa, none⟩)] w fun e w' => ∃ g' b, e = .returned (.tuple #[ptr b, .int .i64 0]) ∧ ScopeP g0 w0 g w bs vd D Ts g' w' ∧ g'.l b = some T := by
  obtain ⟨P, hP, hv, hu⟩ := sigV_some hv
  have H1 := hI bs ta oa a.1 a.2.1 a.2.2 Ts P g0 g w0 w hs hH hT hta hP
  have HS : Hid (TmAt g.o w ta oa a.1 a.2.1 a.2.2 ∧ ev s P = some v ∧ v.is 6 2 = true ∧ argV v 1 [.of (.mk 8 0 [.plain (hereV D Ts.length a.1 a.2.1 a.2.2)])] = some T ∧ (a.1 = 1 → 0 ≤ a.2.1 ∧ a.2.1 ≤ 1099511627776)) := ⟨hta, hv, hu, hc, hn⟩
  unfold ptr at *
  clear hs hH hta hc hP hv hu hI hn
  go_enter Tryz.func162, Tryz.ntmps162
  go_wp2_with fail
  refine H1.mono ?_
  rintro e w2 ⟨g2, b2, rfl, hP2, hl2⟩
  have HN := now_any b2 P v g2 w2 hP2.ste.inv hl2 ⟨s, HS.out.2.1⟩
  have HP2 := (show Hid _ from hP2)
  unfold ptr at *
  clear hP2 hl2 H1
  go_wp2_with fail
  refine HN.mono ?_
  rintro e w3 ⟨g3, q3, rfl, hs3, hv3⟩
  have HP3 : Hid (ScopeP g0 w0 g w bs vd D Ts g3 w3 ∧ g3.v q3 = some v) := ⟨HP2.out.then hs3, hv3⟩
  have HU : Calls Tryz.prog 21 #[.pointer (some ⟨q3, 0, none⟩), .int .i64 6, .int .i64 2] w3 fun e w' => e = .returned (.bool true) ∧ w' = w3 := HS.out.2.2.1 ▸ is_any q3 v 6 2 g3 w3 hs3.inv hv3
  have HV := sval_any bs ta oa a.1 a.2.1 a.2.2 none 0 [] vd D Ts g0 g3 w0 w3 HP3.out.1.ste HP3.out.1.at_ (by omega) (HS.out.1.mor HP3.out.1.mor) (RowL.nil _ _ _) (Nat.zero_le _) HS.out.2.2.2.2
  unfold ptr at *
  clear hs3 hv3 HN HP2
  go_wp2_with (first | ((with_reducible refine HU.mono ?_); rintro e w4 ⟨rfl, rfl⟩))
  refine HV.mono ?_
  rintro e w5 ⟨g5, q5, rfl, hs5, _, hl5⟩
  have HP5 : Hid (ScopeP g0 w0 g w bs vd D Ts g5 w5 ∧ g5.v q3 = some v) := ⟨HP3.out.1.then hs5, hs5.le.v _ _ HP3.out.2⟩
  have hs6 : Ste g5 w5 g5 (w5.alloc (.cells #[.pointer (some ⟨q5, 0, none⟩)] 43)) := .below hs5.inv ((Below.refl _ _).alloc (Nat.le_refl _) _)
  have HO : Calls Tryz.prog 54 #[.int .i64 8, .slice (some ⟨w5.heap.size, 0, none⟩) 1 1] (w5.alloc (.cells #[.pointer (some ⟨q5, 0, none⟩)] 43)) (LatP g5 (w5.alloc (.cells #[.pointer (some ⟨q5, 0, none⟩)] 43)) (.of (.mk 8 0 [.plain (hereV D Ts.length a.1 a.2.1 a.2.2)]))) :=
    of_any 8 _ 1 [hereV D Ts.length a.1 a.2.1 a.2.2] g5 _ hs6.inv (fun _ => ⟨_, _, rfl, Blk.new w5 _ _, row1 hl5⟩) (by simp)
  have HP6 : Hid (ScopeP g0 w0 g w bs vd D Ts g5 (w5.alloc (.cells #[.pointer (some ⟨q5, 0, none⟩)] 43))) := HP5.out.1.then hs6
  clear hs5 hl5 hs6 HV HU HP3
  go_wp2_with fail
  refine HO.mono ?_
  rintro e w7 ⟨g7, q7, rfl, hs7, hl7⟩
  unfold ptr
  have HP7 : Hid (ScopeP g0 w0 g w bs vd D Ts g7 w7 ∧ g7.v q3 = some v) := ⟨HP6.out.then hs7, hs7.le.v _ _ HP5.out.2⟩
  have hs8 : Ste g7 w7 g7 (w7.alloc (.cells #[.pointer (some ⟨q7, 0, none⟩)] 43)) := .below hs7.inv ((Below.refl _ _).alloc (Nat.le_refl _) _)
  have HA1 : Calls Tryz.prog 22 #[.pointer (some ⟨q3, 0, none⟩), .int .i64 1, .slice (some ⟨w7.heap.size, 0, none⟩) 1 1] (w7.alloc (.cells #[.pointer (some ⟨q7, 0, none⟩)] 43)) (LatP g7 (w7.alloc (.cells #[.pointer (some ⟨q7, 0, none⟩)] 43)) T) :=
    argV_any q3 1 v _ 1 [.of (.mk 8 0 [.plain (hereV D Ts.length a.1 a.2.1 a.2.2)])] T g7 _ hs8.inv HP7.out.2 (fun _ => ⟨_, _, rfl, Blk.new w7 _ _, row1 hl7⟩) (by simp) HS.out.2.2.2.1
  have HP8 : Hid (ScopeP g0 w0 g w bs vd D Ts g7 (w7.alloc (.cells #[.pointer (some ⟨q7, 0, none⟩)] 43))) := HP7.out.1.then hs8
  clear hs7 hl7 hs8 HO HP5 HP6 HP7
  go_wp2_with fail
  refine HA1.mono ?_
  rintro e w9 ⟨g9, q9, rfl, hs9, hl9⟩
  have HF : Hid (ScopeP g0 w0 g w bs vd D Ts g9 w9 ∧ g9.l q9 = some T) := ⟨HP8.out.then hs9, hl9⟩
  unfold ptr
  clear hs9 hl9 HA1 HP8
  go_wp2_with fail
  refine bodyPost_ret (v := .tuple #[.pointer (some ⟨q9, 0, none⟩), .int .i64 0]) (by simp [results, Tryz.results162, go_sem]) rfl ⟨g9, q9, rfl, HF.out.1, HF.out.2⟩
end Go.Proofs.YthfjmcomhccbaaaGreatDoor

namespace Go.Proofs.YthfjmcomhccbaaaGreatDoor
open Go.RowKit Tmx Evx
set_option maxRecDepth 60000

set_option maxHeartbeats 4000000 in
theorem declared_any (bs m : Nat) (vd : Ds) (d : Int × Int × F) (D : List (Int × Int × F)) (Ts : List Th) (g0 g : Gh) (w0 w : World) (hs : Ste g0 w0 g w) (hH : ScopeAt g w0 w bs vd D Ts) (hm : vd.T[m]? = some d) :
    Calls Tryz.prog 154 #[ptr bs, .int .i64 (m : Int)] w fun e w' => ∃ g' b, e = .returned (.tuple #[ptr b, .int .i64 0]) ∧ ScopeP g0 w0 g w bs vd D Ts g' w' ∧ g'.l b = some (later ⟨0, 0, D⟩ d.1 d.2.1 d.2.2 []) := by
  have hd := Ste.drew hs.inv
  have HP : Hid (ScopeP g0 w0 g w bs vd D Ts g w.drew) := .of hs hH hd
  obtain ⟨pm, vt, hH⟩ := hH
  obtain ⟨p, cap, e0, ht⟩ := hH.tys
  obtain ⟨b, o, rfl, ht, hk⟩ := ht m d hm
  have hlt := (List.getElem?_eq_some_iff.1 hm).1
  obtain ⟨L, hL⟩ : ∃ L, vd.T.length = L := ⟨_, rfl⟩
  obtain ⟨c0, c1, _, _, _, _⟩ := hH.blk.three
  rw [e0, hL] at c0
  have HL := mlater_any pm b (o + m * 7 + 1) ⟨0, 0, D⟩ d.1 d.2.1 d.2.2 none 0 [] g w.drew hd.inv (hH.mker.along (hd.mor hs.inv)) (ht.mor (hd.mor hs.inv)) (RowL.nil _ _ _) (Nat.zero_le _) (fun e => absurd e hk)
  have n0 : ¬ ((m : Int) < 0) := by omega
  have n1 : ¬ ((L : Int) ≤ (m : Int)) := by omega
  have i1 : (0 : Int) ≤ (m : Int) := by omega
  have i2 : (m : Int) < (L : Int) := by omega
  have HP2 : Hid (ScopeIn g w0 w.drew bs vd pm vt D Ts) := hH.ste hs.inv hd
  have HE : Hid (vd.v = .slice (some ⟨b, o, none⟩) vd.T.length cap) := e0
  have HE2 : Hid (vd.T.length = L) := hL
  unfold ptr at *
  clear hs hH hd e0 ht hk hm hL
  go_enter Tryz.func154, Tryz.ntmps154
  go_wp2_with fail
  have hd0 : (0 : Int) ≤ (m : Int) := i1
  go_region_held3 (fun w' => w'.cell? ⟨bs, 0, none⟩ = some (.slice (some ⟨b, o, none⟩) L cap) ∧ w'.cell? ⟨bs, 1, none⟩ = some (.pointer (some ⟨pm, 0, none⟩))) (go_keep)
    (first
      | (go_at_call 15; refine HL.mono ?_; rintro e w3 ⟨g3, b3, rfl, hs4, hl4⟩; have h5 := HP2.out.ste HP.out.ste.inv hs4; obtain ⟨r0, r1, _, _, _, _⟩ := h5.blk.three; rw [HE.out, HE2.out] at r0; unfold ptr at r1; unfold ptr; have HT : Hid (ScopeP g0 w0 g w bs vd D Ts g3 w3 ∧ g3.l b3 = some (later ⟨0, 0, D⟩ d.1 d.2.1 d.2.2 [])) := ⟨HP.out.then hs4, hl4⟩; clear h5 hs4 hl4))
  go_wp2_with fail
  refine bodyPost_ret (v := .tuple #[.pointer (some ⟨b3, 0, none⟩), .int .i64 0]) (by simp [results, Tryz.results154, go_sem]) rfl ⟨g3, b3, rfl, HT.out.1, HT.out.2⟩
end Go.Proofs.YthfjmcomhccbaaaGreatDoor

namespace Go.Proofs.YthfjmcomhccbaaaGreatDoor
open Go.RowKit Tmx Evx
set_option maxRecDepth 60000

/-- A term there, where that is bound behind. -/
abbrev behindV (D : List (Int × Int × F)) (l : Nat) (c : Int × Int × F) (t : Th) : Th := later ⟨(l : Int), 0, D⟩ c.1 c.2.1 c.2.2 [t]
def natT : Th := .of (.mk 14 0 [])
def sucT (t : Th) : Th := .of (.mk 16 0 [.plain t])
def moreV (s cf : Nat) (rec : Finds) (D : List (Int × Int × F)) (Ts : List Th) (c m : Int × Int × F) : Bool :=
  checkV s cf rec (Ts ++ [natT] ++ [behindV D Ts.length c (.val (free (Ts.length : Int)))]) m.1 m.2.1 m.2.2 (behindV D Ts.length c (sucT (.val (free (Ts.length : Int)))))

set_option maxHeartbeats 4000000 in
theorem checkMore_any {rec : Finds} {vd : Ds} {D : List (Int × Int × F)} (hI : InfersP rec vd D) (s cf bs ta oa tb ob : Nat) (c m : Int × Int × F) (Ts : List Th) (g0 g : Gh) (w0 w : World) (hs : Ste g0 w0 g w) (hH : ScopeAt g w0 w bs vd D Ts) (hT : Ts.length + 2 ≤ 100000)
    (hta : TmAt g.o w ta oa c.1 c.2.1 c.2.2) (htb : TmAt g.o w tb ob m.1 m.2.1 m.2.2) (hn : c.1 = 1 → 0 ≤ c.2.1 ∧ c.2.1 ≤ 1099511627776) (hcf : cf ≤ 400000) (hc : moreV s cf rec D Ts c m = true) :
    Calls Tryz.prog 173 #[ptr bs, .pointer (some ⟨ta, oa, none⟩), .pointer (some ⟨tb, ob, none⟩)] w fun e w' => ∃ g', e = .returned (.int .i64 0) ∧ ScopeP g0 w0 g w bs vd D Ts g' w' := by
  have HP0 : Hid (ScopeP g0 w0 g w bs vd D Ts g w) := .of hs hH (.refl hs.inv)
  obtain ⟨L, hL⟩ : ∃ L, Ts.length = L := ⟨_, rfl⟩
  have HL : Hid (Ts.length = L) := hL
  have HFr := free_any (L : Int) g w hs.inv
  obtain ⟨pm, vt, hH⟩ := hH
  obtain ⟨p0, cap0, rfl, _⟩ := hH.form
  obtain ⟨_, _, c2, _, _, _⟩ := hH.blk.three
  rw [hL] at c2
  unfold moreV behindV at hc
  rw [hL] at hc
  have HS : Hid (TmAt g.o w ta oa c.1 c.2.1 c.2.2 ∧ TmAt g.o w tb ob m.1 m.2.1 m.2.2 ∧ checkV s cf rec (Ts ++ [natT] ++ [later ⟨(L : Int), 0, D⟩ c.1 c.2.1 c.2.2 [.val (free (L : Int))]]) m.1 m.2.1 m.2.2 (later ⟨(L : Int), 0, D⟩ c.1 c.2.1 c.2.2 [sucT (.val (free (L : Int)))]) = true ∧ (c.1 = 1 → 0 ≤ c.2.1 ∧ c.2.1 ≤ 1099511627776)) := ⟨hta, htb, hc, hn⟩
  have HI := (show Hid _ from hI)
  have hT2 : L + 2 ≤ 100000 := by omega
  unfold ptr at *
  clear hs hH hta htb hn hc hI hL hT
  go_enter_defers Tryz.func173, Tryz.ntmps173
  go_wp2_with fail
  refine HFr.mono ?_
  rintro e w1 ⟨g1, q1, rfl, hs1, hl1⟩
  have HP1 : Hid (ScopeP g0 w0 g w bs vd D Ts g1 w1 ∧ g1.l q1 = some (.val (free (L : Int)))) := ⟨HP0.out.then hs1, hl1⟩
  have ha1 : Ste g1 w1 g1 (w1.alloc (.cells #[.pointer (some ⟨q1, 0, none⟩)] 43)) := .below hs1.inv ((Below.refl _ _).alloc (Nat.le_refl _) _)
  have HO : Calls Tryz.prog 54 #[.int .i64 16, .slice (some ⟨w1.heap.size, 0, none⟩) 1 1] (w1.alloc (.cells #[.pointer (some ⟨q1, 0, none⟩)] 43)) (LatP g1 (w1.alloc (.cells #[.pointer (some ⟨q1, 0, none⟩)] 43)) (sucT (.val (free (L : Int))))) :=
    of_any 16 _ 1 [.val (free (L : Int))] g1 _ ha1.inv (fun _ => ⟨_, _, rfl, Blk.new w1 _ _, row1 hl1⟩) (by simp)
  have HP2 : Hid (ScopeP g0 w0 g w bs vd D Ts g1 (w1.alloc (.cells #[.pointer (some ⟨q1, 0, none⟩)] 43))) := HP1.out.1.then ha1
  unfold ptr at *
  clear hs1 hl1 ha1 HFr c2
  go_wp2_with fail
  refine HO.mono ?_
  rintro e w3 ⟨g3, q3, rfl, hs3, hl3⟩
  have HP3 : Hid (ScopeP g0 w0 g w bs vd D Ts g3 w3 ∧ g3.l q1 = some (.val (free (L : Int)))) := ⟨HP2.out.then hs3, hs3.le.l _ _ HP1.out.2⟩
  have ha3 : Ste g3 w3 g3 (w3.alloc (.cells #[.pointer (some ⟨q3, 0, none⟩)] 43)) := .below hs3.inv ((Below.refl _ _).alloc (Nat.le_refl _) _)
  have HP4 : Hid (ScopeP g0 w0 g w bs vd D Ts g3 (w3.alloc (.cells #[.pointer (some ⟨q3, 0, none⟩)] 43))) := HP3.out.1.then ha3
  have HV : Calls Tryz.prog 133 #[ptr bs, .pointer (some ⟨ta, oa, none⟩), .slice (some ⟨w3.heap.size, 0, none⟩) 1 1] (w3.alloc (.cells #[.pointer (some ⟨q3, 0, none⟩)] 43)) fun e w' => ∃ g' b, e = .returned (ptr b) ∧ Ste g3 (w3.alloc (.cells #[.pointer (some ⟨q3, 0, none⟩)] 43)) g' w' ∧ ScopeP g0 w0 g3 (w3.alloc (.cells #[.pointer (some ⟨q3, 0, none⟩)] 43)) bs vd D Ts g' w' ∧ g'.l b = some (later ⟨(L : Int), 0, D⟩ c.1 c.2.1 c.2.2 [sucT (.val (free (L : Int)))]) :=
    HL.out ▸ sval_any bs ta oa c.1 c.2.1 c.2.2 (some ⟨w3.heap.size, 0, none⟩) 1 [sucT (.val (free (L : Int)))] vd D Ts g0 g3 w0 _ HP4.out.ste HP4.out.at_ (by have := HL.out; omega) (HS.out.1.mor HP4.out.mor) (fun _ => ⟨_, _, rfl, Blk.new w3 _ _, row1 hl3⟩) (by simp) HS.out.2.2.2
  unfold ptr at *
  clear hs3 hl3 ha3 HO HP2 HP1
  go_wp2_with fail
  refine HV.mono ?_
  rintro e w5 ⟨g5, q5, rfl, hs5, _, hl5⟩
  have HP5 : Hid (ScopeP g0 w0 g w bs vd D Ts g5 w5 ∧ g5.l q5 = some (later ⟨(L : Int), 0, D⟩ c.1 c.2.1 c.2.2 [sucT (.val (free (L : Int)))])) := ⟨HP4.out.then hs5, hl5⟩
  have hq1 := hs5.le.l _ _ HP3.out.2
  have ha5 : Ste g5 w5 g5 (w5.alloc (.cells #[.pointer (some ⟨q1, 0, none⟩)] 43)) := .below hs5.inv ((Below.refl _ _).alloc (Nat.le_refl _) _)
  have HP6 : Hid (ScopeP g0 w0 g w bs vd D Ts g5 (w5.alloc (.cells #[.pointer (some ⟨q1, 0, none⟩)] 43))) := HP5.out.1.then ha5
  have HW : Calls Tryz.prog 133 #[ptr bs, .pointer (some ⟨ta, oa, none⟩), .slice (some ⟨w5.heap.size, 0, none⟩) 1 1] (w5.alloc (.cells #[.pointer (some ⟨q1, 0, none⟩)] 43)) fun e w' => ∃ g' b, e = .returned (ptr b) ∧ Ste g5 (w5.alloc (.cells #[.pointer (some ⟨q1, 0, none⟩)] 43)) g' w' ∧ ScopeP g0 w0 g5 (w5.alloc (.cells #[.pointer (some ⟨q1, 0, none⟩)] 43)) bs vd D Ts g' w' ∧ g'.l b = some (later ⟨(L : Int), 0, D⟩ c.1 c.2.1 c.2.2 [.val (free (L : Int))]) :=
    HL.out ▸ sval_any bs ta oa c.1 c.2.1 c.2.2 (some ⟨w5.heap.size, 0, none⟩) 1 [.val (free (L : Int))] vd D Ts g0 g5 w0 _ HP6.out.ste HP6.out.at_ (by have := HL.out; omega) (HS.out.1.mor HP6.out.mor) (fun _ => ⟨_, _, rfl, Blk.new w5 _ _, row1 hq1⟩) (by simp) HS.out.2.2.2
  unfold ptr at *
  clear hs5 hl5 ha5 HV HP4 HP3 hq1
  go_wp2_with fail
  refine HW.mono ?_
  rintro e w7 ⟨g7, q7, rfl, hs7, _, hl7⟩
  have HP7 : Hid (ScopeP g0 w0 g w bs vd D Ts g7 w7 ∧ g7.l q5 = some (later ⟨(L : Int), 0, D⟩ c.1 c.2.1 c.2.2 [sucT (.val (free (L : Int)))]) ∧ g7.l q7 = some (later ⟨(L : Int), 0, D⟩ c.1 c.2.1 c.2.2 [.val (free (L : Int))])) := ⟨HP6.out.then hs7, hs7.le.l _ _ HP5.out.2, hl7⟩
  have HN : Calls Tryz.prog 54 #[.int .i64 14, .slice none 0 0] w7 (LatP g7 w7 natT) := of_any 14 none 0 [] g7 w7 hs7.inv (RowL.nil _ _ _) (Nat.zero_le _)
  unfold ptr at *
  clear hs7 hl7 HW HP5 HP6
  go_wp2_with fail
  refine HN.mono ?_
  rintro e w8 ⟨g8, q8, rfl, hs8, hl8⟩
  have HP8 : Hid (ScopeP g0 w0 g w bs vd D Ts g8 w8 ∧ g8.l q5 = some (later ⟨(L : Int), 0, D⟩ c.1 c.2.1 c.2.2 [sucT (.val (free (L : Int)))]) ∧ g8.l q7 = some (later ⟨(L : Int), 0, D⟩ c.1 c.2.1 c.2.2 [.val (free (L : Int))])) := ⟨HP7.out.1.then hs8, hs8.le.l _ _ HP7.out.2.1, hs8.le.l _ _ HP7.out.2.2⟩
  have HB := sbind_any bs q8 vd natT D Ts g0 g8 w0 w8 HP8.out.1.ste HP8.out.1.at_ hl8 (by have := HL.out; omega)
  unfold ptr at *
  clear hs8 hl8 HN HP7
  go_wp2_with fail
  refine HB.mono ?_
  rintro e w9 ⟨g9, q9, rfl, hP9, _⟩
  have HP9 : Hid (ScopeP g0 w0 g8 w8 bs vd D (Ts ++ [natT]) g9 w9 ∧ g9.l q5 = some (later ⟨(L : Int), 0, D⟩ c.1 c.2.1 c.2.2 [sucT (.val (free (L : Int)))]) ∧ g9.l q7 = some (later ⟨(L : Int), 0, D⟩ c.1 c.2.1 c.2.2 [.val (free (L : Int))])) := ⟨hP9, hP9.mor.l _ _ HP8.out.2.1, hP9.mor.l _ _ HP8.out.2.2⟩
  have HB2 := sbind_any bs q7 vd _ D (Ts ++ [natT]) g0 g9 w0 w9 HP9.out.1.ste HP9.out.1.at_ HP9.out.2.2 (by have := HL.out; rw [List.length_append]; simp only [List.length_singleton]; omega)
  unfold ptr at *
  clear hP9 HB
  go_wp2_with fail
  refine HB2.mono ?_
  rintro e w10 ⟨g10, q10, rfl, hP10, _⟩
  have HP10 : Hid (ScopeP g0 w0 g9 w9 bs vd D (Ts ++ [natT] ++ [later ⟨(L : Int), 0, D⟩ c.1 c.2.1 c.2.2 [.val (free (L : Int))]]) g10 w10 ∧ Mor g w g10 w10) := ⟨hP10, HP8.out.1.mor.trans (HP9.out.1.mor.trans hP10.mor)⟩
  have HC := check_any HI.out s cf bs tb ob q5 m.1 m.2.1 m.2.2 _ _ g0 g10 w0 w10 HP10.out.1.ste HP10.out.1.at_ (by have := HL.out; simp only [List.length_append, List.length_singleton]; omega) (HS.out.2.1.mor HP10.out.2) (hP10.mor.l _ _ HP9.out.2.1) hcf HS.out.2.2.1
  unfold ptr at *
  clear hP10 HB2
  go_wp2_with fail
  refine HC.mono ?_
  rintro e w11 ⟨g11, rfl, hP11⟩
  have HD := leave_d bs 2 vd D Ts ([natT] ++ [later ⟨(L : Int), 0, D⟩ c.1 c.2.1 c.2.2 [.val (free (L : Int))]]) g0 g11 w0 w11 hP11.ste (by rw [← List.append_assoc]; exact hP11.at_) rfl (by decide) (by have := HL.out; omega) .returning
  have HP11 := (show Hid _ from hP11)
  unfold ptr at *
  clear hP11 HC
  go_wp2_with fail
  refine leaves_cons (f := 171) (args := #[.pointer (some ⟨bs, 0, none⟩), .int .i64 2]) (by simp) (by simp [go_sem]) ?_
  refine HD.mono ?_
  rintro e u' w12 ⟨rfl, rfl, hP12⟩
  exact ⟨.int .i64 0, by simp [results, Tryz.results173, go_sem], g11, rfl, hP12.ste, HP10.out.2.trans (HP11.out.mor.trans hP12.mor), hP12.at_⟩
end Go.Proofs.YthfjmcomhccbaaaGreatDoor
