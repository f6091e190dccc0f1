/-
  The program's words of kinds.
-/
import Derived.Test.YtcgpjihfligdbaaDoorU1
import Derived.Test.YtcgpjihfligdbaaDoorPlain6
namespace Go.Proofs.YtcgpjihfligdbaaDoor
open Go.RowKit Tmx
set_option maxRecDepth 60000

/-- The first kind, of the last n of eighteen, that has the word l. -/
def pf : Nat → List UInt8 → Int
  | 0, _ => 0
  | n + 1, l => if wordsT.getD (17 - n) [] ≠ [] ∧ wordsT.getD (17 - n) [] = l then ((17 - n : Nat) : Int) else pf n l
theorem pf_kind (l : List UInt8) : pf 18 l = Tmx.kindOf l := by
  unfold Tmx.kindOf
  simp [pf, kf, wordsT, wordL, wordTab]
theorem pf_bd : ∀ (n : Nat) (l : List UInt8), n ≤ 18 → 0 ≤ pf n l ∧ pf n l ≤ 17
  | 0, _, _ => by simp [pf]
  | n + 1, l, h => by
    rw [pf]
    split
    · omega
    · exact pf_bd n l (by omega)

theorem pf_yes {n : Nat} {l : List UInt8} {v : Int} (h : pf (n + 1) l = v) (hw : (wordsT.getD (17 - n) [] == l) = true) (h0 : wordsT.getD (17 - n) [] ≠ []) : v = ((17 - n : Nat) : Int) := by
  rw [pf, if_pos ⟨h0, by simpa using hw⟩] at h
  exact h.symm
theorem pf_no {n : Nat} {l : List UInt8} {v : Int} (h : pf (n + 1) l = v) (hw : (wordsT.getD (17 - n) [] == l) = false) : pf n l = v := by
  rw [pf, if_neg (by rintro ⟨_, h2⟩; rw [h2] at hw; simp at hw)] at h
  exact h
theorem pf_empty {n : Nat} {l : List UInt8} {v : Int} (h : pf (n + 1) l = v) (hw : wordsT.getD (17 - n) [] = []) : pf n l = v := by
  rw [pf, if_neg (by rintro ⟨h1, _⟩; exact h1 hw)] at h
  exact h

theorem index_words (i : Nat) (hi : i < 18) (w : World) : (Instr.index 105 (.agg wordsC) (.int .i64 (i : Int))).run Tryd.prog w = .ok (.string ⟨(wordsT.getD i []).toArray⟩) w := by
  have : i = 0 ∨ i = 1 ∨ i = 2 ∨ i = 3 ∨ i = 4 ∨ i = 5 ∨ i = 6 ∨ i = 7 ∨ i = 8 ∨ i = 9 ∨ i = 10 ∨ i = 11 ∨ i = 12 ∨ i = 13 ∨ i = 14 ∨ i = 15 ∨ i = 16 ∨ i = 17 := by omega
  rcases this with rfl | rfl | rfl | rfl | rfl | rfl | rfl | rfl | rfl | rfl | rfl | rfl | rfl | rfl | rfl | rfl | rfl | rfl
  all_goals
    clear hi
    exact (show _ = _ by kernel_rfl)
/-- A step by an index whose run is known. -/
theorem wpList_index_run {P : Program} {ops : Array Oper} {rest : List Oper} {o : Oper} {a : Act} {Q : Exit → Act → World → Prop} {w w' : World} (hgd : o.guard = none) (t : TypeId) (x ix : Operand)
    (ho : o.op = .index t x ix) (v1 v2 v' : Value) (hs : a.eval x = v1) (hx : a.eval ix = v2)
    (hr : (Instr.index t v1 v2).run P w = .ok v' w') (h : wpList P ops Q rest (a.put o.dst v') w') : wpList P ops Q (o :: rest) a w :=
  wpList_plain hgd fun _ hK => by
    unfold Oper.wp execOp
    simp only [ho, Sem.run_bind, Sem.run_pure, Result.andThen_ok, hs, hx, hr]
    exact hK _ _ h
theorem uW : Tryd.prog.underlying 105 = some (.array 18 9) := by kernel_rfl
theorem iW : (Tryd.prog.info? 105).map (·.size) = some wordsC.size := by kernel_rfl

set_option maxHeartbeats 2000000 in
set_option maxRecDepth 60000 in
theorem pkindOf_any (l : List UInt8) (w : World) (r : Nat) (hv : Vs r w) :
    Calls Tryd.prog 48 #[.string ⟨l.toArray⟩] w fun e w' => e = .returned (.tuple #[.int .i64 (Tmx.kindOf l), .bool (decide (0 < Tmx.kindOf l))]) ∧ w' = w := by
  obtain ⟨v, hv'⟩ : ∃ v, pf 18 l = v := ⟨_, rfl⟩
  have HV0 : Hid (pf 18 l = v) := hv'
  rw [show Tmx.kindOf l = v by rw [← pf_kind]; exact hv']
  clear hv'
  obtain ⟨wt, wf, hwe⟩ := hv.words
  have hwi := iW
  have hix := fun i hi => index_words i hi w
  clear hv
  generalize wordsC = cs at hwe hwi hix
  go_enter Tryd.func48, Tryd.ntmps48
  go_wp2_with (refine wpList_load_row rfl _ _ rfl 0 rfl wt cs wf _ hwe uW rfl hwi ?_)
  clear hwe hwi
  go_loop [7] (fun i => ∃ n : Nat, n ≤ 18 ∧ i = .int .i64 ((18 - n : Nat) : Int) ∧ Hid (pf n l = v)) (fun i => 18 - (intOf i).toNat)
  case atStart => exact ⟨18, Nat.le_refl _, rfl, HV0⟩
  case round =>
    clear HV0
    obtain ⟨n, hn, rfl, HV⟩ := hrel
    cases n with
    | zero =>
      clear hix
      go_wp2_with fail
      go_ret2
      have h0 := HV.out
      rw [pf] at h0
      subst h0
      exact ⟨by rw [show decide ((0 : Int) < 0) = false from rfl]; rfl, rfl⟩
    | succ n =>
      obtain ⟨j, hj⟩ : ∃ j, 18 - (n + 1) = j := ⟨_, rfl⟩
      have HJ : Hid (17 - n = j) := by show _ = _; omega
      rw [hj]
      have hj17 : j < 18 := by omega
      clear hj
      have hx := hix j hj17
      clear hix
      obtain ⟨wd, hwd⟩ : ∃ wd, wordsT.getD j [] = wd := ⟨_, rfl⟩
      rw [hwd] at hx
      have HW : Hid (wordsT.getD j [] = wd) := hwd
      clear hwd
      cases t0 : (wd == [])
      · cases tw : (wd == l)
        · have HN : Hid (pf n l = v) := pf_no HV.out (by rw [HJ.out, HW.out]; exact tw)
          clear HV
          go_wp2_with (first | (refine wpList_index_run rfl _ _ _ rfl (.agg cs) (.int .i64 (j : Int)) (.string ⟨wd.toArray⟩) rfl rfl hx ?_) | fail)
          go_round
          case rel => exact ⟨n, by omega, by have := HJ.out; go_num, HN⟩
          case measure => have := HJ.out; simp [intOf]; omega
        · have HN : Hid (v = (j : Int) ∧ 0 < j) := by
            have h0 : wd ≠ [] := by simpa using t0
            have := pf_yes HV.out (by rw [HJ.out, HW.out]; exact tw) (by rw [HJ.out, HW.out]; exact h0)
            rw [HJ.out] at this
            refine ⟨this, Nat.pos_of_ne_zero ?_⟩
            intro e
            rw [e] at HW
            exact h0 HW.out.symm
          clear HV
          go_wp2_with (first | (refine wpList_index_run rfl _ _ _ rfl (.agg cs) (.int .i64 (j : Int)) (.string ⟨wd.toArray⟩) rfl rfl hx ?_) | fail)
          go_ret2
          refine ⟨?_, rfl⟩
          rw [HN.out.1, decide_eq_true (by have := HN.out.2; omega)]
          rfl
      · have HN : Hid (pf n l = v) := pf_empty HV.out (by rw [HJ.out, HW.out]; simpa using t0)
        clear HV
        go_wp2_with (first | (refine wpList_index_run rfl _ _ _ rfl (.agg cs) (.int .i64 (j : Int)) (.string ⟨wd.toArray⟩) rfl rfl hx ?_) | fail)
        go_round
        case rel => exact ⟨n, by omega, by have := HJ.out; go_num, HN⟩
        case measure => have := HJ.out; simp [intOf]; omega
end Go.Proofs.YtcgpjihfligdbaaDoor
