/-
  Contracts of package infer: infer.
-/
import Derived.Test.YthfjmcomhccbaaaGreatDoorI10m
namespace Go.Proofs.YthfjmcomhccbaaaGreatDoor
open Go.RowKit Tmx Evx
set_option maxRecDepth 60000

/-- What is found of a term of that kind, by what 'rec' finds of its arguments. -/
def kindV (s cf : Nat) (rec : Finds) (D Dt : List (Int × Int × F)) (Ts : List Th) (k n : Int) (f : F) : Option Th :=
  if k = 1 then (if 0 ≤ n ∧ n.toNat < Ts.length then Ts[Ts.length - 1 - n.toNat]? else none)
  else if k = 18 then (if 0 ≤ n then (Dt[n.toNat]?).map fun d => later ⟨0, 0, D⟩ d.1 d.2.1 d.2.2 [] else none)
  else if k = 2 then (if 0 ≤ n ∧ n < 3 then some (.val (.mk 2 (n + 1) [])) else none)
  else if k = 10 ∨ k = 12 ∨ k = 14 then some (.val (.mk 2 0 []))
  else if k = 11 then some (.of (.mk 10 0 []))
  else if k = 15 then some natT
  else if k = 16 then (if checkV s cf rec Ts (argAt f 0).1 (argAt f 0).2.1 (argAt f 0).2.2 natT = true then some natT else none)
  else if k = 3 ∨ k = 6 then (familyV s rec D Ts (argAt f 0) (argAt f 1)).map fun h => .val (.mk 2 h [])
  else if k = 4 then functionV s rec D Ts (argAt f 0) (argAt f 1)
  else if k = 5 then callTypeV s cf rec D Ts (argAt f 0) (argAt f 1)
  else if k = 7 then pairV s cf rec D Ts f
  else if k = 8 then (match sigV s rec Ts (argAt f 0) with | some v => argV v 0 [] | none => none)
  else if k = 9 then (match sigV s rec Ts (argAt f 0) with | some v => argV v 1 [.of (.mk 8 0 [.plain (hereV D Ts.length (argAt f 0).1 (argAt f 0).2.1 (argAt f 0).2.2)])] | none => none)
  else if k = 17 then countTypeV s cf rec D Ts (argAt f 0) (argAt f 1) (argAt f 2) (argAt f 3)
  else none
def inferV (s cf : Nat) (D Dt : List (Int × Int × F)) : Nat → Finds
  | 0 => fun _ _ _ _ => none
  | fu + 1 => fun Ts k n f => if Ts.length + 2 ≤ 100000 ∧ (1 ≤ k ∧ k ≤ 18) ∧ len f = (shpL k).length ∧ fine f = true then kindV s cf (inferV s cf D Dt fu) D Dt Ts k n f else none
/-- Infer, of a term of that kind. -/
def KindP (s cf : Nat) (rec : Finds) (D : List (Int × Int × F)) (vd : Ds) (k : Int) : Prop :=
  ∀ (bs tb o : Nat) (n : Int) (f : F) (Ts : List Th) (T : Th) (g0 g : Gh) (w0 w : World), Ste g0 w0 g w → ScopeAt g w0 w bs vd D Ts → Ts.length + 2 ≤ 100000 → TmAt g.o w tb o k n f → len f = (shpL k).length → fine f = true → kindV s cf rec D vd.T Ts k n f = some T →
    Calls Tryz.prog 143 #[ptr bs, .pointer (some ⟨tb, o, none⟩)] w fun e w' => ∃ g' b, e = .returned (.tuple #[ptr b, .int .i64 0]) ∧ ScopeP g0 w0 g w bs vd D Ts g' w' ∧ g'.l b = some T
/-- What a call answers is handed on. -/
def TypP (g0 : Gh) (w0 : World) (g : Gh) (w : World) (bs : Nat) (vd : Ds) (D : List (Int × Int × F)) (Ts : List Th) (T : Th) (e : Ending) (w' : World) : Prop := ∃ g' b, e = .returned (.tuple #[ptr b, .int .i64 0]) ∧ ScopeP g0 w0 g w bs vd D Ts g' w' ∧ g'.l b = some T
theorem TypP.then {g0 g g1 : Gh} {w0 w w1 : World} {bs : Nat} {vd : Ds} {D : List (Int × Int × F)} {Ts : List Th} {T : Th} {e : Ending} {w' : World} (h : ScopeP g0 w0 g w bs vd D Ts g1 w1) (k : TypP g0 w0 g1 w1 bs vd D Ts T e w') : TypP g0 w0 g w bs vd D Ts T e w' :=
  let ⟨g', b, e, hp, hl⟩ := k
  ⟨g', b, e, h.trans hp, hl⟩
theorem TypP.lat {g0 g g1 : Gh} {w0 w w1 : World} {bs : Nat} {vd : Ds} {D : List (Int × Int × F)} {Ts : List Th} {T : Th} {e : Ending} {w' : World} (h : ScopeP g0 w0 g w bs vd D Ts g1 w1) (k : ∃ g' b, e = .returned (.tuple #[ptr b, .int .i64 0]) ∧ Ste g1 w1 g' w' ∧ g'.l b = some T) : TypP g0 w0 g w bs vd D Ts T e w' :=
  let ⟨g', b, e, hp, hl⟩ := k
  ⟨g', b, e, h.then hp, hl⟩

set_option maxHeartbeats 4000000 in
theorem infer_unit {rec : Finds} {vd : Ds} {D : List (Int × Int × F)} (hI : InfersP rec vd D) (s cf : Nat) (hcf : cf ≤ 400000) (hD : vd.T.length ≤ 1000000) : KindP s cf rec D vd 10 := by
  intro bs tb o n f Ts T g0 g w0 w hs hH hT ht hl hf hc
  have HW := iwrong_any tb o 10 n f g w hs.inv ht (by decide) hl
  have HP0 : Hid (ScopeP g0 w0 g w bs vd D Ts g w ∧ TmAt g.o w tb o 10 n f) := ⟨.of hs hH (.refl hs.inv), ht⟩
  have HC : Hid (kindV s cf rec D vd.T Ts 10 n f = some T) := hc
  have HL : Hid (len f = 0) := hl
  have HK : Hid (InfersP rec vd D ∧ fine f = true ∧ cf ≤ 400000 ∧ vd.T.length ≤ 1000000 ∧ Ts.length + 2 ≤ 100000) := ⟨hI, hf, hcf, hD, hT⟩
  unfold ptr at *
  clear hs hH ht hI hf hcf hD hT hc hl
  go_enter Tryz.func143, Tryz.ntmps143
  go_wp2_with fail
  refine HW.mono ?_
  rintro e w1 ⟨rfl, hs1⟩
  have HP1 : Hid (ScopeP g0 w0 g w bs vd D Ts g w1 ∧ TmAt g.o w1 tb o 10 n f) := ⟨HP0.out.1.then hs1, HP0.out.2.mor (hs1.mor HP0.out.1.ste.inv)⟩
  obtain ⟨ho, q, ⟨cap, hcap⟩, c0, c1, c2, hq⟩ := HP1.out.2
  dsimp only at c2
  rw [HL.out] at c2 hcap
  clear hs1 HW HP0
  have HX := height_any 0 g w1 HP1.out.1.ste.inv
  unfold ptr at *
  clear hq
  go_wp2_with fail
  refine HX.mono ?_
  rintro e w2 ⟨g2, q2, rfl, hs2, hl2⟩
  have HF : Hid (ScopeP g0 w0 g w bs vd D Ts g2 w2 ∧ g2.l q2 = some T) := ⟨HP1.out.1.then hs2, hl2.trans (by have := HC.out; simpa [kindV] using this)⟩
  unfold ptr
  clear hs2 hl2 HX
  go_wp2_with fail
  refine bodyPost_ret (v := .tuple #[.pointer (some ⟨q2, 0, none⟩), .int .i64 0]) (by simp [results, Tryz.results143, go_sem]) rfl ⟨g2, q2, rfl, HF.out.1, HF.out.2⟩

set_option maxHeartbeats 4000000 in
theorem infer_empty {rec : Finds} {vd : Ds} {D : List (Int × Int × F)} (hI : InfersP rec vd D) (s cf : Nat) (hcf : cf ≤ 400000) (hD : vd.T.length ≤ 1000000) : KindP s cf rec D vd 12 := by
  intro bs tb o n f Ts T g0 g w0 w hs hH hT ht hl hf hc
  have HW := iwrong_any tb o 12 n f g w hs.inv ht (by decide) hl
  have HP0 : Hid (ScopeP g0 w0 g w bs vd D Ts g w ∧ TmAt g.o w tb o 12 n f) := ⟨.of hs hH (.refl hs.inv), ht⟩
  have HC : Hid (kindV s cf rec D vd.T Ts 12 n f = some T) := hc
  have HL : Hid (len f = 0) := hl
  have HK : Hid (InfersP rec vd D ∧ fine f = true ∧ cf ≤ 400000 ∧ vd.T.length ≤ 1000000 ∧ Ts.length + 2 ≤ 100000) := ⟨hI, hf, hcf, hD, hT⟩
  unfold ptr at *
  clear hs hH ht hI hf hcf hD hT hc hl
  go_enter Tryz.func143, Tryz.ntmps143
  go_wp2_with fail
  refine HW.mono ?_
  rintro e w1 ⟨rfl, hs1⟩
  have HP1 : Hid (ScopeP g0 w0 g w bs vd D Ts g w1 ∧ TmAt g.o w1 tb o 12 n f) := ⟨HP0.out.1.then hs1, HP0.out.2.mor (hs1.mor HP0.out.1.ste.inv)⟩
  obtain ⟨ho, q, ⟨cap, hcap⟩, c0, c1, c2, hq⟩ := HP1.out.2
  dsimp only at c2
  rw [HL.out] at c2 hcap
  clear hs1 HW HP0
  have HX := height_any 0 g w1 HP1.out.1.ste.inv
  unfold ptr at *
  clear hq
  go_wp2_with fail
  refine HX.mono ?_
  rintro e w2 ⟨g2, q2, rfl, hs2, hl2⟩
  have HF : Hid (ScopeP g0 w0 g w bs vd D Ts g2 w2 ∧ g2.l q2 = some T) := ⟨HP1.out.1.then hs2, hl2.trans (by have := HC.out; simpa [kindV] using this)⟩
  unfold ptr
  clear hs2 hl2 HX
  go_wp2_with fail
  refine bodyPost_ret (v := .tuple #[.pointer (some ⟨q2, 0, none⟩), .int .i64 0]) (by simp [results, Tryz.results143, go_sem]) rfl ⟨g2, q2, rfl, HF.out.1, HF.out.2⟩

set_option maxHeartbeats 4000000 in
theorem infer_nat {rec : Finds} {vd : Ds} {D : List (Int × Int × F)} (hI : InfersP rec vd D) (s cf : Nat) (hcf : cf ≤ 400000) (hD : vd.T.length ≤ 1000000) : KindP s cf rec D vd 14 := by
  intro bs tb o n f Ts T g0 g w0 w hs hH hT ht hl hf hc
  have HW := iwrong_any tb o 14 n f g w hs.inv ht (by decide) hl
  have HP0 : Hid (ScopeP g0 w0 g w bs vd D Ts g w ∧ TmAt g.o w tb o 14 n f) := ⟨.of hs hH (.refl hs.inv), ht⟩
  have HC : Hid (kindV s cf rec D vd.T Ts 14 n f = some T) := hc
  have HL : Hid (len f = 0) := hl
  have HK : Hid (InfersP rec vd D ∧ fine f = true ∧ cf ≤ 400000 ∧ vd.T.length ≤ 1000000 ∧ Ts.length + 2 ≤ 100000) := ⟨hI, hf, hcf, hD, hT⟩
  unfold ptr at *
  clear hs hH ht hI hf hcf hD hT hc hl
  go_enter Tryz.func143, Tryz.ntmps143
  go_wp2_with fail
  refine HW.mono ?_
  rintro e w1 ⟨rfl, hs1⟩
  have HP1 : Hid (ScopeP g0 w0 g w bs vd D Ts g w1 ∧ TmAt g.o w1 tb o 14 n f) := ⟨HP0.out.1.then hs1, HP0.out.2.mor (hs1.mor HP0.out.1.ste.inv)⟩
  obtain ⟨ho, q, ⟨cap, hcap⟩, c0, c1, c2, hq⟩ := HP1.out.2
  dsimp only at c2
  rw [HL.out] at c2 hcap
  clear hs1 HW HP0
  have HX := height_any 0 g w1 HP1.out.1.ste.inv
  unfold ptr at *
  clear hq
  go_wp2_with fail
  refine HX.mono ?_
  rintro e w2 ⟨g2, q2, rfl, hs2, hl2⟩
  have HF : Hid (ScopeP g0 w0 g w bs vd D Ts g2 w2 ∧ g2.l q2 = some T) := ⟨HP1.out.1.then hs2, hl2.trans (by have := HC.out; simpa [kindV] using this)⟩
  unfold ptr
  clear hs2 hl2 HX
  go_wp2_with fail
  refine bodyPost_ret (v := .tuple #[.pointer (some ⟨q2, 0, none⟩), .int .i64 0]) (by simp [results, Tryz.results143, go_sem]) rfl ⟨g2, q2, rfl, HF.out.1, HF.out.2⟩

set_option maxHeartbeats 4000000 in
theorem infer_star {rec : Finds} {vd : Ds} {D : List (Int × Int × F)} (hI : InfersP rec vd D) (s cf : Nat) (hcf : cf ≤ 400000) (hD : vd.T.length ≤ 1000000) : KindP s cf rec D vd 11 := by
  intro bs tb o n f Ts T g0 g w0 w hs hH hT ht hl hf hc
  have HW := iwrong_any tb o 11 n f g w hs.inv ht (by decide) hl
  have HP0 : Hid (ScopeP g0 w0 g w bs vd D Ts g w ∧ TmAt g.o w tb o 11 n f) := ⟨.of hs hH (.refl hs.inv), ht⟩
  have HC : Hid (kindV s cf rec D vd.T Ts 11 n f = some T) := hc
  have HL : Hid (len f = 0) := hl
  have HK : Hid (InfersP rec vd D ∧ fine f = true ∧ cf ≤ 400000 ∧ vd.T.length ≤ 1000000 ∧ Ts.length + 2 ≤ 100000) := ⟨hI, hf, hcf, hD, hT⟩
  unfold ptr at *
  clear hs hH ht hI hf hcf hD hT hc hl
  go_enter Tryz.func143, Tryz.ntmps143
  go_wp2_with fail
  refine HW.mono ?_
  rintro e w1 ⟨rfl, hs1⟩
  have HP1 : Hid (ScopeP g0 w0 g w bs vd D Ts g w1 ∧ TmAt g.o w1 tb o 11 n f) := ⟨HP0.out.1.then hs1, HP0.out.2.mor (hs1.mor HP0.out.1.ste.inv)⟩
  obtain ⟨ho, q, ⟨cap, hcap⟩, c0, c1, c2, hq⟩ := HP1.out.2
  dsimp only at c2
  rw [HL.out] at c2 hcap
  clear hs1 HW HP0
  have HX := of_any 10 none 0 [] g w1 HP1.out.1.ste.inv (RowL.nil _ _ _) (Nat.zero_le _)
  unfold ptr at *
  clear hq
  go_wp2_with fail
  refine HX.mono ?_
  rintro e w2 ⟨g2, q2, rfl, hs2, hl2⟩
  have HF : Hid (ScopeP g0 w0 g w bs vd D Ts g2 w2 ∧ g2.l q2 = some T) := ⟨HP1.out.1.then hs2, hl2.trans (by have := HC.out; simpa [kindV] using this)⟩
  unfold ptr
  clear hs2 hl2 HX
  go_wp2_with fail
  refine bodyPost_ret (v := .tuple #[.pointer (some ⟨q2, 0, none⟩), .int .i64 0]) (by simp [results, Tryz.results143, go_sem]) rfl ⟨g2, q2, rfl, HF.out.1, HF.out.2⟩

set_option maxHeartbeats 4000000 in
theorem infer_zero {rec : Finds} {vd : Ds} {D : List (Int × Int × F)} (hI : InfersP rec vd D) (s cf : Nat) (hcf : cf ≤ 400000) (hD : vd.T.length ≤ 1000000) : KindP s cf rec D vd 15 := by
  intro bs tb o n f Ts T g0 g w0 w hs hH hT ht hl hf hc
  have HW := iwrong_any tb o 15 n f g w hs.inv ht (by decide) hl
  have HP0 : Hid (ScopeP g0 w0 g w bs vd D Ts g w ∧ TmAt g.o w tb o 15 n f) := ⟨.of hs hH (.refl hs.inv), ht⟩
  have HC : Hid (kindV s cf rec D vd.T Ts 15 n f = some T) := hc
  have HL : Hid (len f = 0) := hl
  have HK : Hid (InfersP rec vd D ∧ fine f = true ∧ cf ≤ 400000 ∧ vd.T.length ≤ 1000000 ∧ Ts.length + 2 ≤ 100000) := ⟨hI, hf, hcf, hD, hT⟩
  unfold ptr at *
  clear hs hH ht hI hf hcf hD hT hc hl
  go_enter Tryz.func143, Tryz.ntmps143
  go_wp2_with fail
  refine HW.mono ?_
  rintro e w1 ⟨rfl, hs1⟩
  have HP1 : Hid (ScopeP g0 w0 g w bs vd D Ts g w1 ∧ TmAt g.o w1 tb o 15 n f) := ⟨HP0.out.1.then hs1, HP0.out.2.mor (hs1.mor HP0.out.1.ste.inv)⟩
  obtain ⟨ho, q, ⟨cap, hcap⟩, c0, c1, c2, hq⟩ := HP1.out.2
  dsimp only at c2
  rw [HL.out] at c2 hcap
  clear hs1 HW HP0
  have HX := of_any 14 none 0 [] g w1 HP1.out.1.ste.inv (RowL.nil _ _ _) (Nat.zero_le _)
  unfold ptr at *
  clear hq
  go_wp2_with fail
  refine HX.mono ?_
  rintro e w2 ⟨g2, q2, rfl, hs2, hl2⟩
  have HF : Hid (ScopeP g0 w0 g w bs vd D Ts g2 w2 ∧ g2.l q2 = some T) := ⟨HP1.out.1.then hs2, hl2.trans (by have := HC.out; simpa [kindV, natT] using this)⟩
  unfold ptr
  clear hs2 hl2 HX
  go_wp2_with fail
  refine bodyPost_ret (v := .tuple #[.pointer (some ⟨q2, 0, none⟩), .int .i64 0]) (by simp [results, Tryz.results143, go_sem]) rfl ⟨g2, q2, rfl, HF.out.1, HF.out.2⟩

set_option maxHeartbeats 4000000 in
theorem infer_u {rec : Finds} {vd : Ds} {D : List (Int × Int × F)} (hI : InfersP rec vd D) (s cf : Nat) (hcf : cf ≤ 400000) (hD : vd.T.length ≤ 1000000) : KindP s cf rec D vd 2 := by
  intro bs tb o n f Ts T g0 g w0 w hs hH hT ht hl hf hc
  have HW := iwrong_any tb o 2 n f g w hs.inv ht (by decide) hl
  have HP0 : Hid (ScopeP g0 w0 g w bs vd D Ts g w ∧ TmAt g.o w tb o 2 n f) := ⟨.of hs hH (.refl hs.inv), ht⟩
  have HC : Hid (kindV s cf rec D vd.T Ts 2 n f = some T) := hc
  have HL : Hid (len f = 0) := hl
  have HK : Hid (InfersP rec vd D ∧ fine f = true ∧ cf ≤ 400000 ∧ vd.T.length ≤ 1000000 ∧ Ts.length + 2 ≤ 100000) := ⟨hI, hf, hcf, hD, hT⟩
  unfold ptr at *
  clear hs hH ht hI hf hcf hD hT hc hl
  go_enter Tryz.func143, Tryz.ntmps143
  go_wp2_with fail
  refine HW.mono ?_
  rintro e w1 ⟨rfl, hs1⟩
  have HP1 : Hid (ScopeP g0 w0 g w bs vd D Ts g w1 ∧ TmAt g.o w1 tb o 2 n f) := ⟨HP0.out.1.then hs1, HP0.out.2.mor (hs1.mor HP0.out.1.ste.inv)⟩
  obtain ⟨ho, q, ⟨cap, hcap⟩, c0, c1, c2, hq⟩ := HP1.out.2
  dsimp only at c2
  rw [HL.out] at c2 hcap
  clear hs1 HW HP0
  obtain ⟨hn, hT2⟩ : (0 ≤ n ∧ n < 3) ∧ some (.val (.mk 2 (n + 1) [])) = some T := by
    have h := HC.out
    unfold kindV at h
    rw [if_neg (by decide), if_neg (by decide), if_pos rfl] at h
    split at h
    · exact ⟨by assumption, h⟩
    · cases h
  have HT2 := (show Hid _ from hT2)
  have HX := above_any n g w1 HP1.out.1.ste.inv hn.1 hn.2
  unfold ptr at *
  clear hq hn hT2
  go_wp2_with fail
  refine HX.mono ?_
  rintro e w2 ⟨g2, q2, rfl, hs2, hl2⟩
  have HF : Hid (ScopeP g0 w0 g w bs vd D Ts g2 w2 ∧ g2.l q2 = some T) := ⟨HP1.out.1.then hs2, hl2.trans HT2.out⟩
  clear hs2 hl2 HX
  go_wp2_with fail
  refine bodyPost_ret (v := .tuple #[.pointer (some ⟨q2, 0, none⟩), .int .i64 0]) (by simp [results, Tryz.results143, go_sem]) rfl ⟨g2, q2, rfl, HF.out.1, HF.out.2⟩

set_option maxHeartbeats 4000000 in
theorem infer_var {rec : Finds} {vd : Ds} {D : List (Int × Int × F)} (hI : InfersP rec vd D) (s cf : Nat) (hcf : cf ≤ 400000) (hD : vd.T.length ≤ 1000000) : KindP s cf rec D vd 1 := by
  intro bs tb o n f Ts T g0 g w0 w hs hH hT ht hl hf hc
  have HW := iwrong_any tb o 1 n f g w hs.inv ht (by decide) hl
  have HP0 : Hid (ScopeP g0 w0 g w bs vd D Ts g w ∧ TmAt g.o w tb o 1 n f) := ⟨.of hs hH (.refl hs.inv), ht⟩
  have HC : Hid (kindV s cf rec D vd.T Ts 1 n f = some T) := hc
  have HL : Hid (len f = 0) := hl
  have HK : Hid (InfersP rec vd D ∧ fine f = true ∧ cf ≤ 400000 ∧ vd.T.length ≤ 1000000 ∧ Ts.length + 2 ≤ 100000) := ⟨hI, hf, hcf, hD, hT⟩
  unfold ptr at *
  clear hs hH ht hI hf hcf hD hT hc hl
  go_enter Tryz.func143, Tryz.ntmps143
  go_wp2_with fail
  refine HW.mono ?_
  rintro e w1 ⟨rfl, hs1⟩
  have HP1 : Hid (ScopeP g0 w0 g w bs vd D Ts g w1 ∧ TmAt g.o w1 tb o 1 n f) := ⟨HP0.out.1.then hs1, HP0.out.2.mor (hs1.mor HP0.out.1.ste.inv)⟩
  obtain ⟨ho, q, ⟨cap, hcap⟩, c0, c1, c2, hq⟩ := HP1.out.2
  dsimp only at c2
  rw [HL.out] at c2 hcap
  clear hs1 HW HP0
  obtain ⟨m, rfl, hm, hT2⟩ : ∃ m : Nat, n = (m : Int) ∧ m < Ts.length ∧ Ts[Ts.length - 1 - m]? = some T := by
    have h := HC.out
    unfold kindV at h
    rw [if_pos rfl] at h
    split at h
    · rename_i hh
      exact ⟨n.toNat, by omega, hh.2, h⟩
    · cases h
  have HX := bound_any bs m vd D T Ts g0 g w0 w1 HP1.out.1.ste HP1.out.1.at_ (by have := HK.out.2.2.2.2; omega) hm hT2
  unfold ptr at *
  clear hq hm hT2
  go_wp2_with fail
  refine HX.mono ?_
  rintro e w2 ⟨q2, rfl, hP2, hl2⟩
  obtain ⟨g2, hg2⟩ : ∃ g2, g = g2 := ⟨_, rfl⟩
  have HF : Hid (ScopeP g0 w0 g w bs vd D Ts g2 w2 ∧ g2.l q2 = some T) := by subst hg2; exact ⟨HP1.out.1.trans hP2, hl2⟩
  clear hP2 hl2 HX hg2
  go_wp2_with fail
  refine bodyPost_ret (v := .tuple #[.pointer (some ⟨q2, 0, none⟩), .int .i64 0]) (by simp [results, Tryz.results143, go_sem]) rfl ⟨g2, q2, rfl, HF.out.1, HF.out.2⟩

set_option maxHeartbeats 4000000 in
theorem infer_def {rec : Finds} {vd : Ds} {D : List (Int × Int × F)} (hI : InfersP rec vd D) (s cf : Nat) (hcf : cf ≤ 400000) (hD : vd.T.length ≤ 1000000) : KindP s cf rec D vd 18 := by
  intro bs tb o n f Ts T g0 g w0 w hs hH hT ht hl hf hc
  have HW := iwrong_any tb o 18 n f g w hs.inv ht (by decide) hl
  have HP0 : Hid (ScopeP g0 w0 g w bs vd D Ts g w ∧ TmAt g.o w tb o 18 n f) := ⟨.of hs hH (.refl hs.inv), ht⟩
  have HC : Hid (kindV s cf rec D vd.T Ts 18 n f = some T) := hc
  have HL : Hid (len f = 0) := hl
  have HK : Hid (InfersP rec vd D ∧ fine f = true ∧ cf ≤ 400000 ∧ vd.T.length ≤ 1000000 ∧ Ts.length + 2 ≤ 100000) := ⟨hI, hf, hcf, hD, hT⟩
  unfold ptr at *
  clear hs hH ht hI hf hcf hD hT hc hl
  go_enter Tryz.func143, Tryz.ntmps143
  go_wp2_with fail
  refine HW.mono ?_
  rintro e w1 ⟨rfl, hs1⟩
  have HP1 : Hid (ScopeP g0 w0 g w bs vd D Ts g w1 ∧ TmAt g.o w1 tb o 18 n f) := ⟨HP0.out.1.then hs1, HP0.out.2.mor (hs1.mor HP0.out.1.ste.inv)⟩
  obtain ⟨ho, q, ⟨cap, hcap⟩, c0, c1, c2, hq⟩ := HP1.out.2
  dsimp only at c2
  rw [HL.out] at c2 hcap
  clear hs1 HW HP0
  obtain ⟨m, d, rfl, hm, hT2⟩ : ∃ (m : Nat) (d : Int × Int × F), n = (m : Int) ∧ vd.T[m]? = some d ∧ later ⟨0, 0, D⟩ d.1 d.2.1 d.2.2 [] = T := by
    have h := HC.out
    unfold kindV at h
    rw [if_neg (by decide), if_pos rfl] at h
    split at h
    · rename_i hh
      obtain ⟨d, hd, rfl⟩ := Option.map_eq_some_iff.1 h
      exact ⟨n.toNat, d, by omega, hd, rfl⟩
    · cases h
  have HX := declared_any bs m vd d D Ts g0 g w0 w1 HP1.out.1.ste HP1.out.1.at_ hm
  have HT2 := (show Hid _ from hT2)
  unfold ptr at *
  clear hq hm hT2
  go_wp2_with fail
  refine HX.mono ?_
  rintro e w2 ⟨g2, q2, rfl, hP2, hl2⟩
  have HF : Hid (ScopeP g0 w0 g w bs vd D Ts g2 w2 ∧ g2.l q2 = some T) := ⟨HP1.out.1.trans hP2, hl2.trans (by rw [HT2.out])⟩
  clear hP2 hl2 HX
  go_wp2_with fail
  refine bodyPost_ret (v := .tuple #[.pointer (some ⟨q2, 0, none⟩), .int .i64 0]) (by simp [results, Tryz.results143, go_sem]) rfl ⟨g2, q2, rfl, HF.out.1, HF.out.2⟩

set_option maxHeartbeats 4000000 in
theorem infer_suc {rec : Finds} {vd : Ds} {D : List (Int × Int × F)} (hI : InfersP rec vd D) (s cf : Nat) (hcf : cf ≤ 400000) (hD : vd.T.length ≤ 1000000) : KindP s cf rec D vd 16 := by
  intro bs tb o n f Ts T g0 g w0 w hs hH hT ht hl hf hc
  have HW := iwrong_any tb o 16 n f g w hs.inv ht (by decide) hl
  have HP0 : Hid (ScopeP g0 w0 g w bs vd D Ts g w ∧ TmAt g.o w tb o 16 n f) := ⟨.of hs hH (.refl hs.inv), ht⟩
  have HC : Hid (kindV s cf rec D vd.T Ts 16 n f = some T) := hc
  have HL : Hid (len f = 1) := hl
  have HK : Hid (InfersP rec vd D ∧ fine f = true ∧ cf ≤ 400000 ∧ vd.T.length ≤ 1000000 ∧ Ts.length + 2 ≤ 100000) := ⟨hI, hf, hcf, hD, hT⟩
  unfold ptr at *
  clear hs hH ht hI hf hcf hD hT hc hl
  go_enter Tryz.func143, Tryz.ntmps143
  go_wp2_with fail
  refine HW.mono ?_
  rintro e w1 ⟨rfl, hs1⟩
  have HP1 : Hid (ScopeP g0 w0 g w bs vd D Ts g w1 ∧ TmAt g.o w1 tb o 16 n f) := ⟨HP0.out.1.then hs1, HP0.out.2.mor (hs1.mor HP0.out.1.ste.inv)⟩
  obtain ⟨ho, q, ⟨cap, hcap⟩, c0, c1, c2, hq⟩ := HP1.out.2
  dsimp only at c2
  rw [HL.out] at c2 hcap
  clear hs1 HW HP0
  obtain ⟨ab, ao, rfl, _, hat⟩ := hq.arg (by rw [HL.out]; decide)
  have a0 : TmAt g.o w1 ab ao (argAt f 0).1 (argAt f 0).2.1 (argAt f 0).2.2 := hat 0 (by rw [HL.out]; decide)
  have f0 := fine_arg f 0 HK.out.2.1 (by rw [HL.out]; decide)
  have HA : Hid (True ∧ TmAt g.o w1 ab ao (argAt f 0).1 (argAt f 0).2.1 (argAt f 0).2.2 ∧ ((argAt f 0).1 = 1 → 0 ≤ (argAt f 0).2.1 ∧ (argAt f 0).2.1 ≤ 1099511627776)) := ⟨trivial, a0, f0⟩
  clear hat a0 f0
  obtain ⟨hc1, hT2⟩ : checkV s cf rec Ts (argAt f 0).1 (argAt f 0).2.1 (argAt f 0).2.2 natT = true ∧ natT = T := by
    have h := HC.out
    unfold kindV at h
    rw [if_neg (by decide), if_neg (by decide), if_neg (by decide), if_neg (by decide), if_neg (by decide), if_neg (by decide), if_pos rfl] at h
    split at h
    · exact ⟨by assumption, Option.some.inj h⟩
    · cases h
  have HT2 : Hid (natT = T) := hT2
  clear hT2
  have HX := number_any HK.out.1 s cf bs ab ao _ _ _ Ts g0 g w0 w1 HP1.out.1.ste HP1.out.1.at_ (by have := HK.out.2.2.2.2; omega) HA.out.2.1 HK.out.2.2.1 hc1
  clear hc1
  unfold ptr at *
  clear hq
  go_wp2_with fail
  refine HX.mono ?_
  rintro e w2 ⟨g2, q2, rfl, hP2, hl2⟩
  have HF : Hid (ScopeP g0 w0 g w bs vd D Ts g2 w2 ∧ g2.l q2 = some T) := ⟨HP1.out.1.trans hP2, hl2.trans (by rw [← HT2.out]; rfl)⟩
  clear hP2 hl2 HX
  go_wp2_with fail
  refine bodyPost_ret (v := .tuple #[.pointer (some ⟨q2, 0, none⟩), .int .i64 0]) (by simp [results, Tryz.results143, go_sem]) rfl ⟨g2, q2, rfl, HF.out.1, HF.out.2⟩

set_option maxHeartbeats 4000000 in
theorem infer_pi {rec : Finds} {vd : Ds} {D : List (Int × Int × F)} (hI : InfersP rec vd D) (s cf : Nat) (hcf : cf ≤ 400000) (hD : vd.T.length ≤ 1000000) : KindP s cf rec D vd 3 := by
  intro bs tb o n f Ts T g0 g w0 w hs hH hT ht hl hf hc
  have HW := iwrong_any tb o 3 n f g w hs.inv ht (by decide) hl
  have HP0 : Hid (ScopeP g0 w0 g w bs vd D Ts g w ∧ TmAt g.o w tb o 3 n f) := ⟨.of hs hH (.refl hs.inv), ht⟩
  have HC : Hid (kindV s cf rec D vd.T Ts 3 n f = some T) := hc
  have HL : Hid (len f = 2) := hl
  have HK : Hid (InfersP rec vd D ∧ fine f = true ∧ cf ≤ 400000 ∧ vd.T.length ≤ 1000000 ∧ Ts.length + 2 ≤ 100000) := ⟨hI, hf, hcf, hD, hT⟩
  unfold ptr at *
  clear hs hH ht hI hf hcf hD hT hc hl
  go_enter Tryz.func143, Tryz.ntmps143
  go_wp2_with fail
  refine HW.mono ?_
  rintro e w1 ⟨rfl, hs1⟩
  have HP1 : Hid (ScopeP g0 w0 g w bs vd D Ts g w1 ∧ TmAt g.o w1 tb o 3 n f) := ⟨HP0.out.1.then hs1, HP0.out.2.mor (hs1.mor HP0.out.1.ste.inv)⟩
  obtain ⟨ho, q, ⟨cap, hcap⟩, c0, c1, c2, hq⟩ := HP1.out.2
  dsimp only at c2
  rw [HL.out] at c2 hcap
  clear hs1 HW HP0
  obtain ⟨ab, ao, rfl, _, hat⟩ := hq.arg (by rw [HL.out]; decide)
  have a0 : TmAt g.o w1 ab ao (argAt f 0).1 (argAt f 0).2.1 (argAt f 0).2.2 := hat 0 (by rw [HL.out]; decide)
  have f0 := fine_arg f 0 HK.out.2.1 (by rw [HL.out]; decide)
  have a1 : TmAt g.o w1 ab (ao + 3) (argAt f 1).1 (argAt f 1).2.1 (argAt f 1).2.2 := hat 1 (by rw [HL.out]; decide)
  have f1 := fine_arg f 1 HK.out.2.1 (by rw [HL.out]; decide)
  have HA : Hid (True ∧ TmAt g.o w1 ab ao (argAt f 0).1 (argAt f 0).2.1 (argAt f 0).2.2 ∧ ((argAt f 0).1 = 1 → 0 ≤ (argAt f 0).2.1 ∧ (argAt f 0).2.1 ≤ 1099511627776) ∧ TmAt g.o w1 ab (ao + 3) (argAt f 1).1 (argAt f 1).2.1 (argAt f 1).2.2 ∧ ((argAt f 1).1 = 1 → 0 ≤ (argAt f 1).2.1 ∧ (argAt f 1).2.1 ≤ 1099511627776)) := ⟨trivial, a0, f0, a1, f1⟩
  clear hat a0 f0 a1 f1
  obtain ⟨h, hc1, hT2⟩ : ∃ h, familyV s rec D Ts (argAt f 0) (argAt f 1) = some h ∧ .val (.mk 2 h []) = T := by
    have h : (familyV s rec D Ts (argAt f 0) (argAt f 1)).map (fun h => Nd.val (.mk 2 h [])) = some T := HC.out
    exact Option.map_eq_some_iff.1 h
  have HT2 : Hid (.val (.mk 2 h []) = T) := hT2
  clear hT2
  have hdr := Ste.drew HP1.out.1.ste.inv
  have HP2 : Hid (ScopeP g0 w0 g w bs vd D Ts g w1.drew) := HP1.out.1.then hdr
  have HKP : Hid (∀ g2 w2, Mor g w1.drew g2 w2 → w2.cell? ⟨tb, o, none⟩ = some (.int .i64 3) ∧ w2.cell? ⟨tb, o + 2, none⟩ = some (.slice (some ⟨ab, ao, none⟩) 2 cap)) := fun g2 w2 h => by
    have e : ∀ x, w2.cell? ⟨tb, x, none⟩ = w1.cell? ⟨tb, x, none⟩ := fun x => World.cell?_of_block (w := w1) (h.same tb ho)
    rw [e, e]
    exact ⟨c0, c2⟩
  have HX := family_any HK.out.1 s bs ab ao ab (ao + 3) _ _ h Ts g0 g w0 w1.drew HP2.out.ste HP2.out.at_ (by have := HK.out.2.2.2.2; omega) (HA.out.2.1.mor (hdr.mor HP1.out.1.ste.inv)) (HA.out.2.2.2.1.mor (hdr.mor HP1.out.1.ste.inv)) HA.out.2.2.1 hc1
  clear hc1
  unfold ptr at *
  clear hdr hq
  go_wp2_with fail
  go_region_held3 (fun w' => w'.cell? ⟨tb, o, none⟩ = some (.int .i64 3) ∧ w'.cell? ⟨tb, o + 2, none⟩ = some (.slice (some ⟨ab, ao, none⟩) 2 cap)) (go_keep)
    (first
      | (go_at_call 158; refine HX.mono ?_; rintro e w2 ⟨g2, q2, rfl, hP2, hl2⟩; obtain ⟨r0, r1⟩ := HKP.out g2 w2 hP2.mor; have HF : Hid (ScopeP g0 w0 g w bs vd D Ts g2 w2 ∧ g2.l q2 = some T) := ⟨HP2.out.trans hP2, hl2.trans (by rw [← HT2.out])⟩; clear hP2 hl2))
  go_wp2_with fail
  refine bodyPost_ret (v := .tuple #[.pointer (some ⟨q2, 0, none⟩), .int .i64 0]) (by simp [results, Tryz.results143, go_sem]) rfl ⟨g2, q2, rfl, HF.out.1, HF.out.2⟩

set_option maxHeartbeats 4000000 in
theorem infer_sig {rec : Finds} {vd : Ds} {D : List (Int × Int × F)} (hI : InfersP rec vd D) (s cf : Nat) (hcf : cf ≤ 400000) (hD : vd.T.length ≤ 1000000) : KindP s cf rec D vd 6 := by
  intro bs tb o n f Ts T g0 g w0 w hs hH hT ht hl hf hc
  have HW := iwrong_any tb o 6 n f g w hs.inv ht (by decide) hl
  have HP0 : Hid (ScopeP g0 w0 g w bs vd D Ts g w ∧ TmAt g.o w tb o 6 n f) := ⟨.of hs hH (.refl hs.inv), ht⟩
  have HC : Hid (kindV s cf rec D vd.T Ts 6 n f = some T) := hc
  have HL : Hid (len f = 2) := hl
  have HK : Hid (InfersP rec vd D ∧ fine f = true ∧ cf ≤ 400000 ∧ vd.T.length ≤ 1000000 ∧ Ts.length + 2 ≤ 100000) := ⟨hI, hf, hcf, hD, hT⟩
  unfold ptr at *
  clear hs hH ht hI hf hcf hD hT hc hl
  go_enter Tryz.func143, Tryz.ntmps143
  go_wp2_with fail
  refine HW.mono ?_
  rintro e w1 ⟨rfl, hs1⟩
  have HP1 : Hid (ScopeP g0 w0 g w bs vd D Ts g w1 ∧ TmAt g.o w1 tb o 6 n f) := ⟨HP0.out.1.then hs1, HP0.out.2.mor (hs1.mor HP0.out.1.ste.inv)⟩
  obtain ⟨ho, q, ⟨cap, hcap⟩, c0, c1, c2, hq⟩ := HP1.out.2
  dsimp only at c2
  rw [HL.out] at c2 hcap
  clear hs1 HW HP0
  obtain ⟨ab, ao, rfl, _, hat⟩ := hq.arg (by rw [HL.out]; decide)
  have a0 : TmAt g.o w1 ab ao (argAt f 0).1 (argAt f 0).2.1 (argAt f 0).2.2 := hat 0 (by rw [HL.out]; decide)
  have f0 := fine_arg f 0 HK.out.2.1 (by rw [HL.out]; decide)
  have a1 : TmAt g.o w1 ab (ao + 3) (argAt f 1).1 (argAt f 1).2.1 (argAt f 1).2.2 := hat 1 (by rw [HL.out]; decide)
  have f1 := fine_arg f 1 HK.out.2.1 (by rw [HL.out]; decide)
  have HA : Hid (True ∧ TmAt g.o w1 ab ao (argAt f 0).1 (argAt f 0).2.1 (argAt f 0).2.2 ∧ ((argAt f 0).1 = 1 → 0 ≤ (argAt f 0).2.1 ∧ (argAt f 0).2.1 ≤ 1099511627776) ∧ TmAt g.o w1 ab (ao + 3) (argAt f 1).1 (argAt f 1).2.1 (argAt f 1).2.2 ∧ ((argAt f 1).1 = 1 → 0 ≤ (argAt f 1).2.1 ∧ (argAt f 1).2.1 ≤ 1099511627776)) := ⟨trivial, a0, f0, a1, f1⟩
  clear hat a0 f0 a1 f1
  obtain ⟨h, hc1, hT2⟩ : ∃ h, familyV s rec D Ts (argAt f 0) (argAt f 1) = some h ∧ .val (.mk 2 h []) = T := by
    have h : (familyV s rec D Ts (argAt f 0) (argAt f 1)).map (fun h => Nd.val (.mk 2 h [])) = some T := HC.out
    exact Option.map_eq_some_iff.1 h
  have HT2 : Hid (.val (.mk 2 h []) = T) := hT2
  clear hT2
  have hdr := Ste.drew HP1.out.1.ste.inv
  have HP2 : Hid (ScopeP g0 w0 g w bs vd D Ts g w1.drew) := HP1.out.1.then hdr
  have HKP : Hid (∀ g2 w2, Mor g w1.drew g2 w2 → w2.cell? ⟨tb, o, none⟩ = some (.int .i64 6) ∧ w2.cell? ⟨tb, o + 2, none⟩ = some (.slice (some ⟨ab, ao, none⟩) 2 cap)) := fun g2 w2 h => by
    have e : ∀ x, w2.cell? ⟨tb, x, none⟩ = w1.cell? ⟨tb, x, none⟩ := fun x => World.cell?_of_block (w := w1) (h.same tb ho)
    rw [e, e]
    exact ⟨c0, c2⟩
  have HX := family_any HK.out.1 s bs ab ao ab (ao + 3) _ _ h Ts g0 g w0 w1.drew HP2.out.ste HP2.out.at_ (by have := HK.out.2.2.2.2; omega) (HA.out.2.1.mor (hdr.mor HP1.out.1.ste.inv)) (HA.out.2.2.2.1.mor (hdr.mor HP1.out.1.ste.inv)) HA.out.2.2.1 hc1
  clear hc1
  unfold ptr at *
  clear hdr hq
  go_wp2_with fail
  go_region_held3 (fun w' => w'.cell? ⟨tb, o, none⟩ = some (.int .i64 6) ∧ w'.cell? ⟨tb, o + 2, none⟩ = some (.slice (some ⟨ab, ao, none⟩) 2 cap)) (go_keep)
    (first
      | (go_at_call 158; refine HX.mono ?_; rintro e w2 ⟨g2, q2, rfl, hP2, hl2⟩; obtain ⟨r0, r1⟩ := HKP.out g2 w2 hP2.mor; have HF : Hid (ScopeP g0 w0 g w bs vd D Ts g2 w2 ∧ g2.l q2 = some T) := ⟨HP2.out.trans hP2, hl2.trans (by rw [← HT2.out])⟩; clear hP2 hl2))
  go_wp2_with fail
  refine bodyPost_ret (v := .tuple #[.pointer (some ⟨q2, 0, none⟩), .int .i64 0]) (by simp [results, Tryz.results143, go_sem]) rfl ⟨g2, q2, rfl, HF.out.1, HF.out.2⟩

set_option maxHeartbeats 4000000 in
theorem infer_lam {rec : Finds} {vd : Ds} {D : List (Int × Int × F)} (hI : InfersP rec vd D) (s cf : Nat) (hcf : cf ≤ 400000) (hD : vd.T.length ≤ 1000000) : KindP s cf rec D vd 4 := by
  intro bs tb o n f Ts T g0 g w0 w hs hH hT ht hl hf hc
  have HW := iwrong_any tb o 4 n f g w hs.inv ht (by decide) hl
  have HP0 : Hid (ScopeP g0 w0 g w bs vd D Ts g w ∧ TmAt g.o w tb o 4 n f) := ⟨.of hs hH (.refl hs.inv), ht⟩
  have HC : Hid (kindV s cf rec D vd.T Ts 4 n f = some T) := hc
  have HL : Hid (len f = 2) := hl
  have HK : Hid (InfersP rec vd D ∧ fine f = true ∧ cf ≤ 400000 ∧ vd.T.length ≤ 1000000 ∧ Ts.length + 2 ≤ 100000) := ⟨hI, hf, hcf, hD, hT⟩
  unfold ptr at *
  clear hs hH ht hI hf hcf hD hT hc hl
  go_enter Tryz.func143, Tryz.ntmps143
  go_wp2_with fail
  refine HW.mono ?_
  rintro e w1 ⟨rfl, hs1⟩
  have HP1 : Hid (ScopeP g0 w0 g w bs vd D Ts g w1 ∧ TmAt g.o w1 tb o 4 n f) := ⟨HP0.out.1.then hs1, HP0.out.2.mor (hs1.mor HP0.out.1.ste.inv)⟩
  obtain ⟨ho, q, ⟨cap, hcap⟩, c0, c1, c2, hq⟩ := HP1.out.2
  dsimp only at c2
  rw [HL.out] at c2 hcap
  clear hs1 HW HP0
  obtain ⟨ab, ao, rfl, _, hat⟩ := hq.arg (by rw [HL.out]; decide)
  have a0 : TmAt g.o w1 ab ao (argAt f 0).1 (argAt f 0).2.1 (argAt f 0).2.2 := hat 0 (by rw [HL.out]; decide)
  have f0 := fine_arg f 0 HK.out.2.1 (by rw [HL.out]; decide)
  have a1 : TmAt g.o w1 ab (ao + 3) (argAt f 1).1 (argAt f 1).2.1 (argAt f 1).2.2 := hat 1 (by rw [HL.out]; decide)
  have f1 := fine_arg f 1 HK.out.2.1 (by rw [HL.out]; decide)
  have HA : Hid (True ∧ TmAt g.o w1 ab ao (argAt f 0).1 (argAt f 0).2.1 (argAt f 0).2.2 ∧ ((argAt f 0).1 = 1 → 0 ≤ (argAt f 0).2.1 ∧ (argAt f 0).2.1 ≤ 1099511627776) ∧ TmAt g.o w1 ab (ao + 3) (argAt f 1).1 (argAt f 1).2.1 (argAt f 1).2.2 ∧ ((argAt f 1).1 = 1 → 0 ≤ (argAt f 1).2.1 ∧ (argAt f 1).2.1 ≤ 1099511627776)) := ⟨trivial, a0, f0, a1, f1⟩
  clear hat a0 f0 a1 f1
  have hc1 : functionV s rec D Ts (argAt f 0) (argAt f 1) = some T := HC.out
  have hdr := Ste.drew HP1.out.1.ste.inv
  have HP2 : Hid (ScopeP g0 w0 g w bs vd D Ts g w1.drew) := HP1.out.1.then hdr
  have HKP : Hid (∀ g2 w2, Mor g w1.drew g2 w2 → w2.cell? ⟨tb, o, none⟩ = some (.int .i64 4) ∧ w2.cell? ⟨tb, o + 2, none⟩ = some (.slice (some ⟨ab, ao, none⟩) 2 cap)) := fun g2 w2 h => by
    have e : ∀ x, w2.cell? ⟨tb, x, none⟩ = w1.cell? ⟨tb, x, none⟩ := fun x => World.cell?_of_block (w := w1) (h.same tb ho)
    rw [e, e]
    exact ⟨c0, c2⟩
  have HX := function_any HK.out.1 s bs ab ao ab (ao + 3) _ _ T Ts g0 g w0 w1.drew HP2.out.ste HP2.out.at_ (by have := HK.out.2.2.2.2; omega) (HA.out.2.1.mor (hdr.mor HP1.out.1.ste.inv)) (HA.out.2.2.2.1.mor (hdr.mor HP1.out.1.ste.inv)) HA.out.2.2.1 hc1
  clear hc1
  unfold ptr at *
  clear hdr hq
  go_wp2_with fail
  go_region_held3 (fun w' => w'.cell? ⟨tb, o, none⟩ = some (.int .i64 4) ∧ w'.cell? ⟨tb, o + 2, none⟩ = some (.slice (some ⟨ab, ao, none⟩) 2 cap)) (go_keep)
    (first
      | (go_at_call 159; refine HX.mono ?_; rintro e w2 ⟨g2, q2, rfl, hP2, hl2⟩; obtain ⟨r0, r1⟩ := HKP.out g2 w2 hP2.mor; have HF : Hid (ScopeP g0 w0 g w bs vd D Ts g2 w2 ∧ g2.l q2 = some T) := ⟨HP2.out.trans hP2, hl2⟩; clear hP2 hl2))
  go_wp2_with fail
  refine bodyPost_ret (v := .tuple #[.pointer (some ⟨q2, 0, none⟩), .int .i64 0]) (by simp [results, Tryz.results143, go_sem]) rfl ⟨g2, q2, rfl, HF.out.1, HF.out.2⟩

set_option maxHeartbeats 4000000 in
theorem infer_app {rec : Finds} {vd : Ds} {D : List (Int × Int × F)} (hI : InfersP rec vd D) (s cf : Nat) (hcf : cf ≤ 400000) (hD : vd.T.length ≤ 1000000) : KindP s cf rec D vd 5 := by
  intro bs tb o n f Ts T g0 g w0 w hs hH hT ht hl hf hc
  have HW := iwrong_any tb o 5 n f g w hs.inv ht (by decide) hl
  have HP0 : Hid (ScopeP g0 w0 g w bs vd D Ts g w ∧ TmAt g.o w tb o 5 n f) := ⟨.of hs hH (.refl hs.inv), ht⟩
  have HC : Hid (kindV s cf rec D vd.T Ts 5 n f = some T) := hc
  have HL : Hid (len f = 2) := hl
  have HK : Hid (InfersP rec vd D ∧ fine f = true ∧ cf ≤ 400000 ∧ vd.T.length ≤ 1000000 ∧ Ts.length + 2 ≤ 100000) := ⟨hI, hf, hcf, hD, hT⟩
  unfold ptr at *
  clear hs hH ht hI hf hcf hD hT hc hl
  go_enter Tryz.func143, Tryz.ntmps143
  go_wp2_with fail
  refine HW.mono ?_
  rintro e w1 ⟨rfl, hs1⟩
  have HP1 : Hid (ScopeP g0 w0 g w bs vd D Ts g w1 ∧ TmAt g.o w1 tb o 5 n f) := ⟨HP0.out.1.then hs1, HP0.out.2.mor (hs1.mor HP0.out.1.ste.inv)⟩
  obtain ⟨ho, q, ⟨cap, hcap⟩, c0, c1, c2, hq⟩ := HP1.out.2
  dsimp only at c2
  rw [HL.out] at c2 hcap
  clear hs1 HW HP0
  obtain ⟨ab, ao, rfl, _, hat⟩ := hq.arg (by rw [HL.out]; decide)
  have a0 : TmAt g.o w1 ab ao (argAt f 0).1 (argAt f 0).2.1 (argAt f 0).2.2 := hat 0 (by rw [HL.out]; decide)
  have f0 := fine_arg f 0 HK.out.2.1 (by rw [HL.out]; decide)
  have a1 : TmAt g.o w1 ab (ao + 3) (argAt f 1).1 (argAt f 1).2.1 (argAt f 1).2.2 := hat 1 (by rw [HL.out]; decide)
  have f1 := fine_arg f 1 HK.out.2.1 (by rw [HL.out]; decide)
  have HA : Hid (True ∧ TmAt g.o w1 ab ao (argAt f 0).1 (argAt f 0).2.1 (argAt f 0).2.2 ∧ ((argAt f 0).1 = 1 → 0 ≤ (argAt f 0).2.1 ∧ (argAt f 0).2.1 ≤ 1099511627776) ∧ TmAt g.o w1 ab (ao + 3) (argAt f 1).1 (argAt f 1).2.1 (argAt f 1).2.2 ∧ ((argAt f 1).1 = 1 → 0 ≤ (argAt f 1).2.1 ∧ (argAt f 1).2.1 ≤ 1099511627776)) := ⟨trivial, a0, f0, a1, f1⟩
  clear hat a0 f0 a1 f1
  have hc1 : callTypeV s cf rec D Ts (argAt f 0) (argAt f 1) = some T := HC.out
  have hdr := Ste.drew HP1.out.1.ste.inv
  have HP2 : Hid (ScopeP g0 w0 g w bs vd D Ts g w1.drew) := HP1.out.1.then hdr
  have HKP : Hid (∀ g2 w2, Mor g w1.drew g2 w2 → w2.cell? ⟨tb, o, none⟩ = some (.int .i64 5) ∧ w2.cell? ⟨tb, o + 2, none⟩ = some (.slice (some ⟨ab, ao, none⟩) 2 cap)) := fun g2 w2 h => by
    have e : ∀ x, w2.cell? ⟨tb, x, none⟩ = w1.cell? ⟨tb, x, none⟩ := fun x => World.cell?_of_block (w := w1) (h.same tb ho)
    rw [e, e]
    exact ⟨c0, c2⟩
  have HX := icall_any HK.out.1 s cf bs ab ao ab (ao + 3) _ _ T Ts g0 g w0 w1.drew HP2.out.ste HP2.out.at_ (by have := HK.out.2.2.2.2; omega) (HA.out.2.1.mor (hdr.mor HP1.out.1.ste.inv)) (HA.out.2.2.2.1.mor (hdr.mor HP1.out.1.ste.inv)) HA.out.2.2.2.2 HK.out.2.2.1 hc1
  clear hc1
  unfold ptr at *
  clear hdr hq
  go_wp2_with fail
  go_region_held3 (fun w' => w'.cell? ⟨tb, o, none⟩ = some (.int .i64 5) ∧ w'.cell? ⟨tb, o + 2, none⟩ = some (.slice (some ⟨ab, ao, none⟩) 2 cap)) (go_keep)
    (first
      | (go_at_call 160; refine HX.mono ?_; rintro e w2 ⟨g2, q2, rfl, hP2, hl2⟩; obtain ⟨r0, r1⟩ := HKP.out g2 w2 hP2.mor; have HF : Hid (ScopeP g0 w0 g w bs vd D Ts g2 w2 ∧ g2.l q2 = some T) := ⟨HP2.out.trans hP2, hl2⟩; clear hP2 hl2))
  go_wp2_with fail
  refine bodyPost_ret (v := .tuple #[.pointer (some ⟨q2, 0, none⟩), .int .i64 0]) (by simp [results, Tryz.results143, go_sem]) rfl ⟨g2, q2, rfl, HF.out.1, HF.out.2⟩

set_option maxHeartbeats 4000000 in
theorem infer_fst {rec : Finds} {vd : Ds} {D : List (Int × Int × F)} (hI : InfersP rec vd D) (s cf : Nat) (hcf : cf ≤ 400000) (hD : vd.T.length ≤ 1000000) : KindP s cf rec D vd 8 := by
  intro bs tb o n f Ts T g0 g w0 w hs hH hT ht hl hf hc
  have HW := iwrong_any tb o 8 n f g w hs.inv ht (by decide) hl
  have HP0 : Hid (ScopeP g0 w0 g w bs vd D Ts g w ∧ TmAt g.o w tb o 8 n f) := ⟨.of hs hH (.refl hs.inv), ht⟩
  have HC : Hid (kindV s cf rec D vd.T Ts 8 n f = some T) := hc
  have HL : Hid (len f = 1) := hl
  have HK : Hid (InfersP rec vd D ∧ fine f = true ∧ cf ≤ 400000 ∧ vd.T.length ≤ 1000000 ∧ Ts.length + 2 ≤ 100000) := ⟨hI, hf, hcf, hD, hT⟩
  unfold ptr at *
  clear hs hH ht hI hf hcf hD hT hc hl
  go_enter Tryz.func143, Tryz.ntmps143
  go_wp2_with fail
  refine HW.mono ?_
  rintro e w1 ⟨rfl, hs1⟩
  have HP1 : Hid (ScopeP g0 w0 g w bs vd D Ts g w1 ∧ TmAt g.o w1 tb o 8 n f) := ⟨HP0.out.1.then hs1, HP0.out.2.mor (hs1.mor HP0.out.1.ste.inv)⟩
  obtain ⟨ho, q, ⟨cap, hcap⟩, c0, c1, c2, hq⟩ := HP1.out.2
  dsimp only at c2
  rw [HL.out] at c2 hcap
  clear hs1 HW HP0
  obtain ⟨ab, ao, rfl, _, hat⟩ := hq.arg (by rw [HL.out]; decide)
  have a0 : TmAt g.o w1 ab ao (argAt f 0).1 (argAt f 0).2.1 (argAt f 0).2.2 := hat 0 (by rw [HL.out]; decide)
  have f0 := fine_arg f 0 HK.out.2.1 (by rw [HL.out]; decide)
  have HA : Hid (True ∧ TmAt g.o w1 ab ao (argAt f 0).1 (argAt f 0).2.1 (argAt f 0).2.2 ∧ ((argAt f 0).1 = 1 → 0 ≤ (argAt f 0).2.1 ∧ (argAt f 0).2.1 ≤ 1099511627776)) := ⟨trivial, a0, f0⟩
  clear hat a0 f0
  obtain ⟨v, hv, hc1⟩ : ∃ v, sigV s rec Ts (argAt f 0) = some v ∧ argV v 0 [] = some T := by
    have h : (match sigV s rec Ts (argAt f 0) with | some v => argV v 0 [] | none => none) = some T := HC.out
    cases e : sigV s rec Ts (argAt f 0) with
    | none => rw [e] at h; cases h
    | some v => rw [e] at h; exact ⟨v, rfl, h⟩
  have hdr := Ste.drew HP1.out.1.ste.inv
  have HP2 : Hid (ScopeP g0 w0 g w bs vd D Ts g w1.drew) := HP1.out.1.then hdr
  have HKP : Hid (∀ g2 w2, Mor g w1.drew g2 w2 → w2.cell? ⟨tb, o, none⟩ = some (.int .i64 8) ∧ w2.cell? ⟨tb, o + 2, none⟩ = some (.slice (some ⟨ab, ao, none⟩) 1 cap)) := fun g2 w2 h => by
    have e : ∀ x, w2.cell? ⟨tb, x, none⟩ = w1.cell? ⟨tb, x, none⟩ := fun x => World.cell?_of_block (w := w1) (h.same tb ho)
    rw [e, e]
    exact ⟨c0, c2⟩
  have HX := ihalf1_any HK.out.1 s bs ab ao _ v T Ts g0 g w0 w1.drew HP2.out.ste HP2.out.at_ (by have := HK.out.2.2.2.2; omega) (HA.out.2.1.mor (hdr.mor HP1.out.1.ste.inv)) hv hc1
  clear hc1 hv
  unfold ptr at *
  clear hdr hq
  go_wp2_with fail
  go_region_held3 (fun w' => w'.cell? ⟨tb, o, none⟩ = some (.int .i64 8) ∧ w'.cell? ⟨tb, o + 2, none⟩ = some (.slice (some ⟨ab, ao, none⟩) 1 cap)) (go_keep)
    (first
      | (go_at_call 162; refine HX.mono ?_; rintro e w2 ⟨g2, q2, rfl, hP2, hl2⟩; obtain ⟨r0, r1⟩ := HKP.out g2 w2 hP2.mor; have HF : Hid (ScopeP g0 w0 g w bs vd D Ts g2 w2 ∧ g2.l q2 = some T) := ⟨HP2.out.trans hP2, hl2⟩; clear hP2 hl2))
  go_wp2_with fail
  refine bodyPost_ret (v := .tuple #[.pointer (some ⟨q2, 0, none⟩), .int .i64 0]) (by simp [results, Tryz.results143, go_sem]) rfl ⟨g2, q2, rfl, HF.out.1, HF.out.2⟩

set_option maxHeartbeats 4000000 in
theorem infer_snd {rec : Finds} {vd : Ds} {D : List (Int × Int × F)} (hI : InfersP rec vd D) (s cf : Nat) (hcf : cf ≤ 400000) (hD : vd.T.length ≤ 1000000) : KindP s cf rec D vd 9 := by
  intro bs tb o n f Ts T g0 g w0 w hs hH hT ht hl hf hc
  have HW := iwrong_any tb o 9 n f g w hs.inv ht (by decide) hl
  have HP0 : Hid (ScopeP g0 w0 g w bs vd D Ts g w ∧ TmAt g.o w tb o 9 n f) := ⟨.of hs hH (.refl hs.inv), ht⟩
  have HC : Hid (kindV s cf rec D vd.T Ts 9 n f = some T) := hc
  have HL : Hid (len f = 1) := hl
  have HK : Hid (InfersP rec vd D ∧ fine f = true ∧ cf ≤ 400000 ∧ vd.T.length ≤ 1000000 ∧ Ts.length + 2 ≤ 100000) := ⟨hI, hf, hcf, hD, hT⟩
  unfold ptr at *
  clear hs hH ht hI hf hcf hD hT hc hl
  go_enter Tryz.func143, Tryz.ntmps143
  go_wp2_with fail
  refine HW.mono ?_
  rintro e w1 ⟨rfl, hs1⟩
  have HP1 : Hid (ScopeP g0 w0 g w bs vd D Ts g w1 ∧ TmAt g.o w1 tb o 9 n f) := ⟨HP0.out.1.then hs1, HP0.out.2.mor (hs1.mor HP0.out.1.ste.inv)⟩
  obtain ⟨ho, q, ⟨cap, hcap⟩, c0, c1, c2, hq⟩ := HP1.out.2
  dsimp only at c2
  rw [HL.out] at c2 hcap
  clear hs1 HW HP0
  obtain ⟨ab, ao, rfl, _, hat⟩ := hq.arg (by rw [HL.out]; decide)
  have a0 : TmAt g.o w1 ab ao (argAt f 0).1 (argAt f 0).2.1 (argAt f 0).2.2 := hat 0 (by rw [HL.out]; decide)
  have f0 := fine_arg f 0 HK.out.2.1 (by rw [HL.out]; decide)
  have HA : Hid (True ∧ TmAt g.o w1 ab ao (argAt f 0).1 (argAt f 0).2.1 (argAt f 0).2.2 ∧ ((argAt f 0).1 = 1 → 0 ≤ (argAt f 0).2.1 ∧ (argAt f 0).2.1 ≤ 1099511627776)) := ⟨trivial, a0, f0⟩
  clear hat a0 f0
  obtain ⟨v, hv, hc1⟩ : ∃ v, sigV s rec Ts (argAt f 0) = some v ∧ argV v 1 [.of (.mk 8 0 [.plain (hereV D Ts.length (argAt f 0).1 (argAt f 0).2.1 (argAt f 0).2.2)])] = some T := by
    have h : (match sigV s rec Ts (argAt f 0) with | some v => argV v 1 [.of (.mk 8 0 [.plain (hereV D Ts.length (argAt f 0).1 (argAt f 0).2.1 (argAt f 0).2.2)])] | none => none) = some T := HC.out
    cases e : sigV s rec Ts (argAt f 0) with
    | none => rw [e] at h; cases h
    | some v => rw [e] at h; exact ⟨v, rfl, h⟩
  have hdr := Ste.drew HP1.out.1.ste.inv
  have HP2 : Hid (ScopeP g0 w0 g w bs vd D Ts g w1.drew) := HP1.out.1.then hdr
  have HKP : Hid (∀ g2 w2, Mor g w1.drew g2 w2 → w2.cell? ⟨tb, o, none⟩ = some (.int .i64 9) ∧ w2.cell? ⟨tb, o + 2, none⟩ = some (.slice (some ⟨ab, ao, none⟩) 1 cap)) := fun g2 w2 h => by
    have e : ∀ x, w2.cell? ⟨tb, x, none⟩ = w1.cell? ⟨tb, x, none⟩ := fun x => World.cell?_of_block (w := w1) (h.same tb ho)
    rw [e, e]
    exact ⟨c0, c2⟩
  have HX := ihalf2_any HK.out.1 s bs ab ao _ v T Ts g0 g w0 w1.drew HP2.out.ste HP2.out.at_ (by have := HK.out.2.2.2.2; omega) (HA.out.2.1.mor (hdr.mor HP1.out.1.ste.inv)) HA.out.2.2 hv hc1
  clear hc1 hv
  unfold ptr at *
  clear hdr hq
  go_wp2_with fail
  go_region_held3 (fun w' => w'.cell? ⟨tb, o, none⟩ = some (.int .i64 9) ∧ w'.cell? ⟨tb, o + 2, none⟩ = some (.slice (some ⟨ab, ao, none⟩) 1 cap)) (go_keep)
    (first
      | (go_at_call 162; refine HX.mono ?_; rintro e w2 ⟨g2, q2, rfl, hP2, hl2⟩; obtain ⟨r0, r1⟩ := HKP.out g2 w2 hP2.mor; have HF : Hid (ScopeP g0 w0 g w bs vd D Ts g2 w2 ∧ g2.l q2 = some T) := ⟨HP2.out.trans hP2, hl2⟩; clear hP2 hl2))
  go_wp2_with fail
  refine bodyPost_ret (v := .tuple #[.pointer (some ⟨q2, 0, none⟩), .int .i64 0]) (by simp [results, Tryz.results143, go_sem]) rfl ⟨g2, q2, rfl, HF.out.1, HF.out.2⟩

set_option maxHeartbeats 4000000 in
theorem infer_rec {rec : Finds} {vd : Ds} {D : List (Int × Int × F)} (hI : InfersP rec vd D) (s cf : Nat) (hcf : cf ≤ 400000) (hD : vd.T.length ≤ 1000000) : KindP s cf rec D vd 17 := by
  intro bs tb o n f Ts T g0 g w0 w hs hH hT ht hl hf hc
  have HW := iwrong_any tb o 17 n f g w hs.inv ht (by decide) hl
  have HP0 : Hid (ScopeP g0 w0 g w bs vd D Ts g w ∧ TmAt g.o w tb o 17 n f) := ⟨.of hs hH (.refl hs.inv), ht⟩
  have HC : Hid (kindV s cf rec D vd.T Ts 17 n f = some T) := hc
  have HL : Hid (len f = 4) := hl
  have HK : Hid (InfersP rec vd D ∧ fine f = true ∧ cf ≤ 400000 ∧ vd.T.length ≤ 1000000 ∧ Ts.length + 2 ≤ 100000) := ⟨hI, hf, hcf, hD, hT⟩
  unfold ptr at *
  clear hs hH ht hI hf hcf hD hT hc hl
  go_enter Tryz.func143, Tryz.ntmps143
  go_wp2_with fail
  refine HW.mono ?_
  rintro e w1 ⟨rfl, hs1⟩
  have HP1 : Hid (ScopeP g0 w0 g w bs vd D Ts g w1 ∧ TmAt g.o w1 tb o 17 n f) := ⟨HP0.out.1.then hs1, HP0.out.2.mor (hs1.mor HP0.out.1.ste.inv)⟩
  obtain ⟨ho, q, ⟨cap, hcap⟩, c0, c1, c2, hq⟩ := HP1.out.2
  dsimp only at c2
  rw [HL.out] at c2 hcap
  clear hs1 HW HP0
  obtain ⟨ab, ao, rfl, _, hat⟩ := hq.arg (by rw [HL.out]; decide)
  have a0 : TmAt g.o w1 ab ao (argAt f 0).1 (argAt f 0).2.1 (argAt f 0).2.2 := hat 0 (by rw [HL.out]; decide)
  have f0 := fine_arg f 0 HK.out.2.1 (by rw [HL.out]; decide)
  have a1 : TmAt g.o w1 ab (ao + 3) (argAt f 1).1 (argAt f 1).2.1 (argAt f 1).2.2 := hat 1 (by rw [HL.out]; decide)
  have f1 := fine_arg f 1 HK.out.2.1 (by rw [HL.out]; decide)
  have a2 : TmAt g.o w1 ab (ao + 6) (argAt f 2).1 (argAt f 2).2.1 (argAt f 2).2.2 := hat 2 (by rw [HL.out]; decide)
  have f2 := fine_arg f 2 HK.out.2.1 (by rw [HL.out]; decide)
  have a3 : TmAt g.o w1 ab (ao + 9) (argAt f 3).1 (argAt f 3).2.1 (argAt f 3).2.2 := hat 3 (by rw [HL.out]; decide)
  have f3 := fine_arg f 3 HK.out.2.1 (by rw [HL.out]; decide)
  have HA : Hid (True ∧ TmAt g.o w1 ab ao (argAt f 0).1 (argAt f 0).2.1 (argAt f 0).2.2 ∧ ((argAt f 0).1 = 1 → 0 ≤ (argAt f 0).2.1 ∧ (argAt f 0).2.1 ≤ 1099511627776) ∧ TmAt g.o w1 ab (ao + 3) (argAt f 1).1 (argAt f 1).2.1 (argAt f 1).2.2 ∧ ((argAt f 1).1 = 1 → 0 ≤ (argAt f 1).2.1 ∧ (argAt f 1).2.1 ≤ 1099511627776) ∧ TmAt g.o w1 ab (ao + 6) (argAt f 2).1 (argAt f 2).2.1 (argAt f 2).2.2 ∧ ((argAt f 2).1 = 1 → 0 ≤ (argAt f 2).2.1 ∧ (argAt f 2).2.1 ≤ 1099511627776) ∧ TmAt g.o w1 ab (ao + 9) (argAt f 3).1 (argAt f 3).2.1 (argAt f 3).2.2 ∧ ((argAt f 3).1 = 1 → 0 ≤ (argAt f 3).2.1 ∧ (argAt f 3).2.1 ≤ 1099511627776)) := ⟨trivial, a0, f0, a1, f1, a2, f2, a3, f3⟩
  clear hat a0 f0 a1 f1 a2 f2 a3 f3
  have hc1 : countTypeV s cf rec D Ts (argAt f 0) (argAt f 1) (argAt f 2) (argAt f 3) = some T := HC.out
  have hdr := Ste.drew HP1.out.1.ste.inv
  have HP2 : Hid (ScopeP g0 w0 g w bs vd D Ts g w1.drew) := HP1.out.1.then hdr
  have HKP : Hid (∀ g2 w2, Mor g w1.drew g2 w2 → w2.cell? ⟨tb, o, none⟩ = some (.int .i64 17) ∧ w2.cell? ⟨tb, o + 2, none⟩ = some (.slice (some ⟨ab, ao, none⟩) 4 cap)) := fun g2 w2 h => by
    have e : ∀ x, w2.cell? ⟨tb, x, none⟩ = w1.cell? ⟨tb, x, none⟩ := fun x => World.cell?_of_block (w := w1) (h.same tb ho)
    rw [e, e]
    exact ⟨c0, c2⟩
  have HX := icount_any HK.out.1 s cf bs ab ao ab (ao + 3) ab (ao + 6) ab (ao + 9) _ _ _ _ T Ts g0 g w0 w1.drew HP2.out.ste HP2.out.at_ HK.out.2.2.2.2 (HA.out.2.1.mor (hdr.mor HP1.out.1.ste.inv)) (HA.out.2.2.2.1.mor (hdr.mor HP1.out.1.ste.inv)) (HA.out.2.2.2.2.2.1.mor (hdr.mor HP1.out.1.ste.inv)) (HA.out.2.2.2.2.2.2.2.1.mor (hdr.mor HP1.out.1.ste.inv)) HA.out.2.2.1 HA.out.2.2.2.2.2.2.2.2 HK.out.2.2.1 hc1
  clear hc1
  unfold ptr at *
  clear hdr hq
  go_wp2_with fail
  go_region_held3 (fun w' => w'.cell? ⟨tb, o, none⟩ = some (.int .i64 17) ∧ w'.cell? ⟨tb, o + 2, none⟩ = some (.slice (some ⟨ab, ao, none⟩) 4 cap)) (go_keep)
    (first
      | (go_at_call 164; refine HX.mono ?_; rintro e w2 ⟨g2, q2, rfl, hP2, hl2⟩; obtain ⟨r0, r1⟩ := HKP.out g2 w2 hP2.mor; have HF : Hid (ScopeP g0 w0 g w bs vd D Ts g2 w2 ∧ g2.l q2 = some T) := ⟨HP2.out.trans hP2, hl2⟩; clear hP2 hl2))
  go_wp2_with fail
  refine bodyPost_ret (v := .tuple #[.pointer (some ⟨q2, 0, none⟩), .int .i64 0]) (by simp [results, Tryz.results143, go_sem]) rfl ⟨g2, q2, rfl, HF.out.1, HF.out.2⟩

set_option maxHeartbeats 4000000 in
theorem infer_pair {rec : Finds} {vd : Ds} {D : List (Int × Int × F)} (hI : InfersP rec vd D) (s cf : Nat) (hcf : cf ≤ 400000) (hD : vd.T.length ≤ 1000000) : KindP s cf rec D vd 7 := by
  intro bs tb o n f Ts T g0 g w0 w hs hH hT ht hl hf hc
  have HW := iwrong_any tb o 7 n f g w hs.inv ht (by decide) hl
  have HP0 : Hid (ScopeP g0 w0 g w bs vd D Ts g w ∧ TmAt g.o w tb o 7 n f) := ⟨.of hs hH (.refl hs.inv), ht⟩
  have HC : Hid (kindV s cf rec D vd.T Ts 7 n f = some T) := hc
  have HL : Hid (len f = 4) := hl
  have HK : Hid (InfersP rec vd D ∧ fine f = true ∧ cf ≤ 400000 ∧ vd.T.length ≤ 1000000 ∧ Ts.length + 2 ≤ 100000) := ⟨hI, hf, hcf, hD, hT⟩
  unfold ptr at *
  clear hs hH ht hI hf hcf hD hT hc hl
  go_enter Tryz.func143, Tryz.ntmps143
  go_wp2_with fail
  refine HW.mono ?_
  rintro e w1 ⟨rfl, hs1⟩
  have HP1 : Hid (ScopeP g0 w0 g w bs vd D Ts g w1 ∧ TmAt g.o w1 tb o 7 n f) := ⟨HP0.out.1.then hs1, HP0.out.2.mor (hs1.mor HP0.out.1.ste.inv)⟩
  obtain ⟨ho, q, ⟨cap, hcap⟩, c0, c1, c2, hq⟩ := HP1.out.2
  dsimp only at c2
  rw [HL.out] at c2 hcap
  clear hs1 HW HP0
  have hc1 : pairV s cf rec D Ts f = some T := HC.out
  have HX := ipair_any HK.out.1 s cf bs cap q f T Ts g0 g w0 w1 HP1.out.1.ste HP1.out.1.at_ HK.out.2.2.2.2 hq HL.out HK.out.2.1 hcap HK.out.2.2.1 hc1
  unfold ptr at *
  clear hq hc1
  go_wp2_with fail
  refine HX.mono ?_
  rintro e w2 ⟨g2, q2, rfl, hP2, hl2⟩
  have HF : Hid (ScopeP g0 w0 g w bs vd D Ts g2 w2 ∧ g2.l q2 = some T) := ⟨HP1.out.1.trans hP2, hl2⟩
  clear hP2 hl2 HX
  go_wp2_with fail
  refine bodyPost_ret (v := .tuple #[.pointer (some ⟨q2, 0, none⟩), .int .i64 0]) (by simp [results, Tryz.results143, go_sem]) rfl ⟨g2, q2, rfl, HF.out.1, HF.out.2⟩
end Go.Proofs.YthfjmcomhccbaaaGreatDoor
