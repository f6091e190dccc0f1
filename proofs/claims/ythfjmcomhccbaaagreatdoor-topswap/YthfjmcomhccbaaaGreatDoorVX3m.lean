/-
  The program's Words: a text's words.
-/
/-
  The program's words of kinds.
-/
/-
  The program's names.
-/
import Derived.Test.YthfjmcomhccbaaaGreatDoorPlainKm
import Derived.Test.YthfjmcomhccbaaaGreatDoorPlainPm
import Derived.WalkKit
import Derived.Deep.LoopGhost
import Derived.Test.YthfjmcomhccbaaaGreatDoorMem2m
import Derived.Test.YthfjmcomhccbaaaGreatDoorPlain2m
namespace Go.Proofs.YthfjmcomhccbaaaGreatDoor
open Go.RowKit Tmx
set_option maxRecDepth 60000

/-- A text is put behind others, in a row of one's own. -/
theorem push_name (w : World) (lo : Nat) (v : Value) (ns : List (List UInt8)) (hA : NamesIn lo w v ns) (x : List UInt8) (hlen : ns.length ≤ 4000000) (hlo : lo ≤ w.heap.size) :
    ∃ g cap w', (Builtin.append_ #[102, 102] 102 #[v, .slice (some ⟨w.heap.size, 0, none⟩) 1 1]).run Tryz.prog (w.alloc (.cells #[.string ⟨x.toArray⟩] 9)) = .ok (.slice (some ⟨g, 0, none⟩) (ns.length + 1) cap) w' ∧
      NamesIn lo w' (.slice (some ⟨g, 0, none⟩) (ns.length + 1) cap) (ns ++ [x]) ∧ OwnNew w v (.slice (some ⟨g, 0, none⟩) (ns.length + 1) cap) ∧ w'.os = w.os ∧ w'.tape = w.tape ∧ w'.output = w.output ∧ w.heap.size ≤ w'.heap.size ∧ (∀ k, k < w.heap.size → v.ownBlock ≠ some k → w'.heap[k]? = w.heap[k]?) := by
  obtain ⟨i, hi, he⟩ := Option.map_eq_some_iff.1 i9
  simp only [Prod.mk.injEq] at he
  obtain ⟨hz, hs, hb⟩ := he
  have hA' : NamesIn lo (w.alloc (.cells #[.string ⟨x.toArray⟩] 9)) v ns := hA.along fun b _ h2 => Below.heap_alloc _ _ _ h2
  have hB : (w.alloc (.cells #[.string ⟨x.toArray⟩] 9)).heap[w.heap.size]? = some (.cells #[.string ⟨x.toArray⟩] 9 (0, 0)) := heap_alloc_new _ _
  obtain ⟨g, cap, w', hr, ho, hg, hat, hlt⟩ := run_append_lies (P := Tryz.prog) (w.alloc (.cells #[.string ⟨x.toArray⟩] 9)) 102 102 lo 9 i _ 1 16 u50 hi hz hs hb rfl (by decide) v ns.length _ hA' ⟨w.heap.size, 0, none⟩ 1 1 [.string ⟨x.toArray⟩] rfl
    (World.news_of_block hB) (by simp [Value.oneCell']) (by decide) (by simp only [maxLen]; omega) (by omega) (by simp; omega) (w.alloc (.cells #[.string ⟨x.toArray⟩] 9)).heap.size rfl
  have hz1 := hg.size
  rw [show (w.alloc (.cells #[.string ⟨x.toArray⟩] 9)).heap.size = w.heap.size + 1 by simp] at hz1 hat
  refine ⟨g, cap, w', hr, ?_, ?_, hg.os, hg.tape, hg.output, by omega, fun k hk hv => ?_⟩
  · unfold NamesIn
    rw [List.length_append, List.map_append]
    exact ho
  · intro b hb
    have : g = b := by simpa [Value.ownBlock] using hb
    subst this
    rcases hat with h | h
    · exact .inl h
    · exact .inr (by omega)
  · rw [hg.block k (by simp; omega) (fun e => hv e.symm)]
    exact Below.heap_alloc _ _ _ hk

theorem wd_slice {l : List UInt8} {i j : Nat} : ({ data := l.toArray } : ByteArray).extract i j = { data := ((l.drop i).take (j - i)).toArray } := by
  rw [ByteArray.extract_mk]
theorem take_one {l : List UInt8} {st i : Nat} (h : st ≤ i) (hi : i < l.length) {c : UInt8} (hc : l[i] = c) : (l.drop st).take (i + 1 - st) = (l.drop st).take (i - st) ++ [c] := by
  rw [show i + 1 - st = (i - st) + 1 by omega, List.take_add_one, List.getElem?_drop, show st + (i - st) = i by omega, List.getElem?_eq_getElem hi, hc]
  rfl
theorem flush_some {a : List UInt8} (h : a ≠ []) : flush a = [a] := by unfold flush; rw [if_neg h]
theorem flush_none {a : List UInt8} (h : a = []) : flush a = [] := by unfold flush; rw [if_pos h]
theorem tk_cons (a : List UInt8) (c : UInt8) (r : List UInt8) : tk a (c :: r) = if c = 32 ∨ c = 10 then flush a ++ tk [] r else if c = 40 ∨ c = 41 then flush a ++ ([c] :: tk [] r) else tk (a ++ [c]) r := rfl

/-- What holds ahead of the sign number i. -/
def WordsAt (w wr : World) (l : List UInt8) (out start ix : Value) (i : Nat) : Prop :=
  i ≤ l.length ∧ ix = .int .i64 (i : Int) ∧ ∃ (st : Nat) (p : Option Addr) (cap : Nat) (done : List (List UInt8)), st ≤ i ∧ start = .int .i64 (st : Int) ∧ out = .slice p done.length cap ∧ NamesIn w.heap.size wr out done ∧ done.length ≤ st ∧ Below w.heap.size w wr ∧ Hid (done ++ tk ((l.drop st).take (i - st)) (l.drop i) = tk [] l)

/-- A word that has come to its end is put behind. -/
theorem words_push {w wr : World} {p : Option Addr} {n cap : Nat} {done : List (List UInt8)} (hN : NamesIn w.heap.size wr (.slice p n cap) done) (hb : Below w.heap.size w wr) (x : List UInt8) (hlen : done.length ≤ 4000000) :
    ∃ g cap' w', (Builtin.append_ #[102, 102] 102 #[.slice p n cap, .slice (some ⟨wr.heap.size, 0, none⟩) 1 1]).run Tryz.prog (wr.alloc (.cells #[.string ⟨x.toArray⟩] 9)) = .ok (.slice (some ⟨g, 0, none⟩) (done.length + 1) cap') w' ∧
      NamesIn w.heap.size w' (.slice (some ⟨g, 0, none⟩) (done.length + 1) cap') (done ++ [x]) ∧ Below w.heap.size w w' := by
  obtain ⟨g, cap', w', hr, hN', _, h1, h2, h3, h4, h5⟩ := push_name wr w.heap.size _ done hN x hlen hb.size
  refine ⟨g, cap', w', hr, hN', ⟨h1.trans hb.os, h2.trans hb.tape, h3.trans hb.output, Nat.le_trans hb.size h4, fun k hk => ?_⟩⟩
  rw [h5 k (Nat.lt_of_lt_of_le hk hb.size) (fun e => by have := (hN.lt k e).1; omega)]
  exact hb.block k hk

set_option maxHeartbeats 8000000 in
set_option maxRecDepth 60000 in
theorem words_any (l : List UInt8) (w : World) (hl : l.length ≤ 2000000) :
    Calls Tryz.prog 41 #[.string ⟨l.toArray⟩] w fun e w' => (∃ p cap, e = .returned (.slice p (tk [] l).length cap) ∧ NamesIn w.heap.size w' (.slice p (tk [] l).length cap) (tk [] l)) ∧ Below w.heap.size w w' := by
  go_enter Tryz.func41, Tryz.ntmps41
  go_wp2_with fail
  go_loopg [3, 4, 8] l.length (fun g out start ix wr => ∃ i, g = l.length - i ∧ WordsAt w wr l out start ix i)
  case atStart => exact ⟨0, by simp, Nat.zero_le _, rfl, 0, none, 0, [], Nat.le_refl _, rfl, rfl, World.ownsRow_nil w _ 9 1, Nat.le_refl _, Below.refl _ _, by show [] ++ tk ((l.drop 0).take (0 - 0)) (l.drop 0) = tk [] l; simp⟩
  case round =>
    obtain ⟨i, rfl, hi, rfl, st, p, cap, done, hst, rfl, rfl, hN, hdl, hb, HT⟩ := hrel
    by_cases hlt : i < l.length
    · have hd : l.drop i = l[i] :: l.drop (i + 1) := List.drop_eq_getElem_cons hlt
      obtain ⟨c, hc⟩ : ∃ c, l[i] = c := ⟨_, rfl⟩
      rw [hc] at hd
      have hby : ({ data := l.toArray } : ByteArray)[i]'(by simpa [ByteArray.size] using hlt) = c := hc
      have HT1 : Hid (done ++ tk ((l.drop st).take (i - st)) (c :: l.drop (i + 1)) = tk [] l) := by
        show _ = _
        rw [← hd]
        exact HT.out
      have hone := take_one hst hlt hc
      have hx1 := wd_slice (l := l) (i := st) (j := i)
      have hx2 := wd_slice (l := l) (i := i) (j := i + 1)
      have he2 : (l.drop i).take (i + 1 - i) = [c] := by rw [hd, show i + 1 - i = 1 by omega]; rfl
      rw [he2] at hx2
      have hnl : ∀ x : List UInt8, x = (l.drop st).take (i - st) → (st < i → x ≠ []) ∧ (¬ st < i → x = []) := fun x hx => by
        have hxl : x.length = i - st := by rw [hx, List.length_take, List.length_drop]; omega
        refine ⟨fun h e => ?_, fun h => List.eq_nil_of_length_eq_zero (by omega)⟩
        rw [e] at hxl
        simp at hxl
        omega
      obtain ⟨a, ha⟩ : ∃ a, (l.drop st).take (i - st) = a := ⟨_, rfl⟩
      rw [ha] at hx1 HT1 hone
      have hna := hnl a ha.symm
      clear hnl HT hd ha hc he2
      have e10 : (l.drop (i + 1)).take (i + 1 - (i + 1)) = [] := by simp
      by_cases hE : c = 32 ∨ c = 10 ∨ c = 40 ∨ c = 41
      · by_cases hsi : st < i
        · have hfl : flush a = [a] := flush_some (hna.1 hsi)
          obtain ⟨g1, cap1, w1, hr1, hN1, hb1⟩ := words_push hN hb a (by omega)
          have HR1 : Hid ((Builtin.append_ #[102, 102] 102 #[.slice p done.length cap, .slice (some ⟨wr.heap.size, 0, none⟩) 1 1]).run Tryz.prog (wr.alloc (.cells #[.string ⟨a.toArray⟩] 9)) = .ok (.slice (some ⟨g1, 0, none⟩) (done.length + 1) cap1) w1) := hr1
          clear hr1 hna
          rcases hE with rfl | rfl | rfl | rfl
          · have HT2 : Hid ((done ++ [a]) ++ tk [] (l.drop (i + 1)) = tk [] l) := by
              have h0 := HT1.out
              rw [tk_cons, if_pos (by decide), hfl] at h0
              show _ = _
              rw [← h0]
              simp
            clear HT1 hone hfl
            go_wp2_with (first | (at_builtin; first | (refine wpList_append_run rfl _ _ 102 rfl _ _ _ rfl rfl HR1.out ?_)) | fail)
            go_roundg (l.length - (i + 1))
            case measure => omega
            case rel => exact ⟨i + 1, rfl, hlt, by go_num, i + 1, some ⟨g1, 0, none⟩, cap1, done ++ [a], Nat.le_refl _, by go_num, by simp, by simpa using hN1, by simp; omega, hb1, by show _ = _; rw [e10]; exact HT2.out⟩
          · have HT2 : Hid ((done ++ [a]) ++ tk [] (l.drop (i + 1)) = tk [] l) := by
              have h0 := HT1.out
              rw [tk_cons, if_pos (by decide), hfl] at h0
              show _ = _
              rw [← h0]
              simp
            clear HT1 hone hfl
            go_wp2_with (first | (at_builtin; first | (refine wpList_append_run rfl _ _ 102 rfl _ _ _ rfl rfl HR1.out ?_)) | fail)
            go_roundg (l.length - (i + 1))
            case measure => omega
            case rel => exact ⟨i + 1, rfl, hlt, by go_num, i + 1, some ⟨g1, 0, none⟩, cap1, done ++ [a], Nat.le_refl _, by go_num, by simp, by simpa using hN1, by simp; omega, hb1, by show _ = _; rw [e10]; exact HT2.out⟩
          · have HT2 : Hid (((done ++ [a]) ++ [[40]]) ++ tk [] (l.drop (i + 1)) = tk [] l) := by
              have h0 := HT1.out
              rw [tk_cons, if_neg (by decide), if_pos (by decide), hfl] at h0
              show _ = _
              rw [← h0]
              simp
            clear HT1 hone hfl
            have hN1' : NamesIn w.heap.size w1 (.slice (some ⟨g1, 0, none⟩) (done.length + 1) cap1) (done ++ [a]) := hN1
            obtain ⟨g2, cap2, w2, hr2, hN2, hb2⟩ := words_push hN1' hb1 [40] (by simp; omega)
            rw [List.length_append, List.length_singleton] at hr2 hN2
            have HR2 : Hid ((Builtin.append_ #[102, 102] 102 #[.slice (some ⟨g1, 0, none⟩) (done.length + 1) cap1, .slice (some ⟨w1.heap.size, 0, none⟩) 1 1]).run Tryz.prog (w1.alloc (.cells #[.string ⟨[(40 : UInt8)].toArray⟩] 9)) = .ok (.slice (some ⟨g2, 0, none⟩) (done.length + 1 + 1) cap2) w2) := hr2
            clear hr2 hN1'
            go_wp2_with (first | (at_builtin; first | (refine wpList_append_run rfl _ _ 102 rfl _ _ _ rfl rfl HR1.out ?_; clear HR1) | (refine wpList_append_run rfl _ _ 102 rfl _ _ _ rfl rfl HR2.out ?_; clear HR2)) | fail)
            go_roundg (l.length - (i + 1))
            case measure => omega
            case rel => exact ⟨i + 1, rfl, hlt, by go_num, i + 1, some ⟨g2, 0, none⟩, cap2, (done ++ [a]) ++ [[40]], Nat.le_refl _, by go_num, by simp, by simpa using hN2, by simp; omega, hb2, by show _ = _; rw [e10]; exact HT2.out⟩
          · have HT2 : Hid (((done ++ [a]) ++ [[41]]) ++ tk [] (l.drop (i + 1)) = tk [] l) := by
              have h0 := HT1.out
              rw [tk_cons, if_neg (by decide), if_pos (by decide), hfl] at h0
              show _ = _
              rw [← h0]
              simp
            clear HT1 hone hfl
            have hN1' : NamesIn w.heap.size w1 (.slice (some ⟨g1, 0, none⟩) (done.length + 1) cap1) (done ++ [a]) := hN1
            obtain ⟨g2, cap2, w2, hr2, hN2, hb2⟩ := words_push hN1' hb1 [41] (by simp; omega)
            rw [List.length_append, List.length_singleton] at hr2 hN2
            have HR2 : Hid ((Builtin.append_ #[102, 102] 102 #[.slice (some ⟨g1, 0, none⟩) (done.length + 1) cap1, .slice (some ⟨w1.heap.size, 0, none⟩) 1 1]).run Tryz.prog (w1.alloc (.cells #[.string ⟨[(41 : UInt8)].toArray⟩] 9)) = .ok (.slice (some ⟨g2, 0, none⟩) (done.length + 1 + 1) cap2) w2) := hr2
            clear hr2 hN1'
            go_wp2_with (first | (at_builtin; first | (refine wpList_append_run rfl _ _ 102 rfl _ _ _ rfl rfl HR1.out ?_; clear HR1) | (refine wpList_append_run rfl _ _ 102 rfl _ _ _ rfl rfl HR2.out ?_; clear HR2)) | fail)
            go_roundg (l.length - (i + 1))
            case measure => omega
            case rel => exact ⟨i + 1, rfl, hlt, by go_num, i + 1, some ⟨g2, 0, none⟩, cap2, (done ++ [a]) ++ [[41]], Nat.le_refl _, by go_num, by simp, by simpa using hN2, by simp; omega, hb2, by show _ = _; rw [e10]; exact HT2.out⟩
        · have hfl : flush a = [] := flush_none (hna.2 hsi)
          clear hna hx1
          rcases hE with rfl | rfl | rfl | rfl
          · have HT2 : Hid (done ++ tk [] (l.drop (i + 1)) = tk [] l) := by
              have h0 := HT1.out
              rw [tk_cons, if_pos (by decide), hfl] at h0
              exact h0
            clear HT1 hone hfl
            go_wp2_with fail
            go_roundg (l.length - (i + 1))
            case measure => omega
            case rel => exact ⟨i + 1, rfl, hlt, by go_num, i + 1, p, cap, done, Nat.le_refl _, by go_num, rfl, hN, by omega, hb, by show _ = _; rw [e10]; exact HT2.out⟩
          · have HT2 : Hid (done ++ tk [] (l.drop (i + 1)) = tk [] l) := by
              have h0 := HT1.out
              rw [tk_cons, if_pos (by decide), hfl] at h0
              exact h0
            clear HT1 hone hfl
            go_wp2_with fail
            go_roundg (l.length - (i + 1))
            case measure => omega
            case rel => exact ⟨i + 1, rfl, hlt, by go_num, i + 1, p, cap, done, Nat.le_refl _, by go_num, rfl, hN, by omega, hb, by show _ = _; rw [e10]; exact HT2.out⟩
          · have HT2 : Hid ((done ++ [[40]]) ++ tk [] (l.drop (i + 1)) = tk [] l) := by
              have h0 := HT1.out
              rw [tk_cons, if_neg (by decide), if_pos (by decide), hfl] at h0
              show _ = _
              rw [← h0]
              simp
            clear HT1 hone hfl
            obtain ⟨g2, cap2, w2, hr2, hN2, hb2⟩ := words_push hN hb [40] (by omega)
            have HR2 : Hid ((Builtin.append_ #[102, 102] 102 #[.slice p done.length cap, .slice (some ⟨wr.heap.size, 0, none⟩) 1 1]).run Tryz.prog (wr.alloc (.cells #[.string ⟨[(40 : UInt8)].toArray⟩] 9)) = .ok (.slice (some ⟨g2, 0, none⟩) (done.length + 1) cap2) w2) := hr2
            clear hr2
            go_wp2_with (first | (at_builtin; first | (refine wpList_append_run rfl _ _ 102 rfl _ _ _ rfl rfl HR2.out ?_)) | fail)
            go_roundg (l.length - (i + 1))
            case measure => omega
            case rel => exact ⟨i + 1, rfl, hlt, by go_num, i + 1, some ⟨g2, 0, none⟩, cap2, done ++ [[40]], Nat.le_refl _, by go_num, by simp, by simpa using hN2, by simp; omega, hb2, by show _ = _; rw [e10]; exact HT2.out⟩
          · have HT2 : Hid ((done ++ [[41]]) ++ tk [] (l.drop (i + 1)) = tk [] l) := by
              have h0 := HT1.out
              rw [tk_cons, if_neg (by decide), if_pos (by decide), hfl] at h0
              show _ = _
              rw [← h0]
              simp
            clear HT1 hone hfl
            obtain ⟨g2, cap2, w2, hr2, hN2, hb2⟩ := words_push hN hb [41] (by omega)
            have HR2 : Hid ((Builtin.append_ #[102, 102] 102 #[.slice p done.length cap, .slice (some ⟨wr.heap.size, 0, none⟩) 1 1]).run Tryz.prog (wr.alloc (.cells #[.string ⟨[(41 : UInt8)].toArray⟩] 9)) = .ok (.slice (some ⟨g2, 0, none⟩) (done.length + 1) cap2) w2) := hr2
            clear hr2
            go_wp2_with (first | (at_builtin; first | (refine wpList_append_run rfl _ _ 102 rfl _ _ _ rfl rfl HR2.out ?_)) | fail)
            go_roundg (l.length - (i + 1))
            case measure => omega
            case rel => exact ⟨i + 1, rfl, hlt, by go_num, i + 1, some ⟨g2, 0, none⟩, cap2, done ++ [[41]], Nat.le_refl _, by go_num, by simp, by simpa using hN2, by simp; omega, hb2, by show _ = _; rw [e10]; exact HT2.out⟩
      · have HT2 : Hid (done ++ tk (a ++ [c]) (l.drop (i + 1)) = tk [] l) := by
          have h0 := HT1.out
          rw [tk_cons, if_neg (fun h => hE (by rcases h with h | h; exact Or.inl h; exact Or.inr (Or.inl h))), if_neg (fun h => hE (Or.inr (Or.inr h)))] at h0
          exact h0
        have b1 : ((c.toNat : Int) == 32) = false := by rw [beq_eq_false_iff_ne]; intro h; exact hE (.inl (UInt8.toNat_inj.1 (by show c.toNat = 32; omega)))
        have b2 : ((c.toNat : Int) == 10) = false := by rw [beq_eq_false_iff_ne]; intro h; exact hE (.inr (.inl (UInt8.toNat_inj.1 (by show c.toNat = 10; omega))))
        have b3 : ((c.toNat : Int) == 40) = false := by rw [beq_eq_false_iff_ne]; intro h; exact hE (.inr (.inr (.inl (UInt8.toNat_inj.1 (by show c.toNat = 40; omega)))))
        have b4 : ((c.toNat : Int) == 41) = false := by rw [beq_eq_false_iff_ne]; intro h; exact hE (.inr (.inr (.inr (UInt8.toNat_inj.1 (by show c.toNat = 41; omega)))))
        clear HT1 hna hE hx1 hx2
        go_wp2_with fail
        go_roundg (l.length - (i + 1))
        case measure => omega
        case rel => exact ⟨i + 1, rfl, hlt, by go_num, st, p, cap, done, by omega, rfl, rfl, hN, by omega, hb, by show _ = _; rw [hone]; exact HT2.out⟩
    · obtain rfl : i = l.length := by omega
      have hx1 := wd_slice (l := l) (i := st) (j := l.length)
      have hal : (l.drop st).take (l.length - st) = l.drop st := List.take_of_length_le (by rw [List.length_drop]; omega)
      rw [hal] at hx1 HT
      have HT1 : Hid (done ++ flush (l.drop st) = tk [] l) := by
        have h0 := HT.out
        rw [List.drop_length, tk] at h0
        exact h0
      clear HT hal
      by_cases hsi : st < l.length
      · obtain ⟨a, ha⟩ : ∃ a, l.drop st = a := ⟨_, rfl⟩
        rw [ha] at hx1 HT1
        have HT2 : Hid (tk [] l = done ++ [a]) := by
          have h0 := HT1.out
          rw [flush_some (fun e => by rw [e] at ha; have := congrArg List.length ha; simp at this; omega)] at h0
          exact h0.symm
        clear HT1 ha
        obtain ⟨g1, cap1, w1, hr1, hN1, hb1⟩ := words_push hN hb a (by omega)
        have HR1 : Hid ((Builtin.append_ #[102, 102] 102 #[.slice p done.length cap, .slice (some ⟨wr.heap.size, 0, none⟩) 1 1]).run Tryz.prog (wr.alloc (.cells #[.string ⟨a.toArray⟩] 9)) = .ok (.slice (some ⟨g1, 0, none⟩) (done.length + 1) cap1) w1) := hr1
        clear hr1
        go_wp2_with (first | (at_builtin; first | (refine wpList_append_run rfl _ _ 102 rfl _ _ _ rfl rfl HR1.out ?_)) | fail)
        go_ret
        refine ⟨⟨some ⟨g1, 0, none⟩, cap1, by rw [HT2.out]; simp, ?_⟩, hb1⟩
        rw [HT2.out]
        simpa using hN1
      · have HT2 : Hid (tk [] l = done) := by
          have h0 := HT1.out
          rw [flush_none (List.drop_eq_nil_of_le (by omega)), List.append_nil] at h0
          exact h0.symm
        clear HT1 hx1
        go_wp2_with fail
        go_ret
        exact ⟨⟨p, cap, by rw [HT2.out]; rfl, by rw [HT2.out]; exact hN⟩, hb⟩
end Go.Proofs.YthfjmcomhccbaaaGreatDoor

namespace Go.Proofs.YthfjmcomhccbaaaGreatDoor
open Go.RowKit Tmx
set_option maxRecDepth 60000

/-- The first kind, of the last n of eighteen, that has the word l. -/
def pf : Nat → List UInt8 → Int
  | 0, _ => 0
  | n + 1, l => if wordsT.getD (17 - n) [] ≠ [] ∧ wordsT.getD (17 - n) [] = l then ((17 - n : Nat) : Int) else pf n l
theorem pf_kind (l : List UInt8) : pf 18 l = Tmx.kindOf l := by
  unfold Tmx.kindOf
  simp [pf, kf, wordsT, wordL, wordTab]
theorem pf_bd : ∀ (n : Nat) (l : List UInt8), n ≤ 18 → 0 ≤ pf n l ∧ pf n l ≤ 17
  | 0, _, _ => by simp [pf]
  | n + 1, l, h => by
    rw [pf]
    split
    · omega
    · exact pf_bd n l (by omega)

theorem pf_yes {n : Nat} {l : List UInt8} {v : Int} (h : pf (n + 1) l = v) (hw : (wordsT.getD (17 - n) [] == l) = true) (h0 : wordsT.getD (17 - n) [] ≠ []) : v = ((17 - n : Nat) : Int) := by
  rw [pf, if_pos ⟨h0, by simpa using hw⟩] at h
  exact h.symm
theorem pf_no {n : Nat} {l : List UInt8} {v : Int} (h : pf (n + 1) l = v) (hw : (wordsT.getD (17 - n) [] == l) = false) : pf n l = v := by
  rw [pf, if_neg (by rintro ⟨_, h2⟩; rw [h2] at hw; simp at hw)] at h
  exact h
theorem pf_empty {n : Nat} {l : List UInt8} {v : Int} (h : pf (n + 1) l = v) (hw : wordsT.getD (17 - n) [] = []) : pf n l = v := by
  rw [pf, if_neg (by rintro ⟨h1, _⟩; exact h1 hw)] at h
  exact h

theorem index_words (i : Nat) (hi : i < 18) (w : World) : (Instr.index 161 (.agg wordsC) (.int .i64 (i : Int))).run Tryz.prog w = .ok (.string ⟨(wordsT.getD i []).toArray⟩) w := by
  have : i = 0 ∨ i = 1 ∨ i = 2 ∨ i = 3 ∨ i = 4 ∨ i = 5 ∨ i = 6 ∨ i = 7 ∨ i = 8 ∨ i = 9 ∨ i = 10 ∨ i = 11 ∨ i = 12 ∨ i = 13 ∨ i = 14 ∨ i = 15 ∨ i = 16 ∨ i = 17 := by omega
  rcases this with rfl | rfl | rfl | rfl | rfl | rfl | rfl | rfl | rfl | rfl | rfl | rfl | rfl | rfl | rfl | rfl | rfl | rfl
  all_goals
    clear hi
    exact (show _ = _ by kernel_rfl)
/-- A step by an index whose run is known. -/
theorem wpList_index_run {P : Program} {ops : Array Oper} {rest : List Oper} {o : Oper} {a : Act} {Q : Exit → Act → World → Prop} {w w' : World} (hgd : o.guard = none) (t : TypeId) (x ix : Operand)
    (ho : o.op = .index t x ix) (v1 v2 v' : Value) (hs : a.eval x = v1) (hx : a.eval ix = v2)
    (hr : (Instr.index t v1 v2).run P w = .ok v' w') (h : wpList P ops Q rest (a.put o.dst v') w') : wpList P ops Q (o :: rest) a w :=
  wpList_plain hgd fun _ hK => by
    unfold Oper.wp execOp
    simp only [ho, Sem.run_bind, Sem.run_pure, Result.andThen_ok, hs, hx, hr]
    exact hK _ _ h
theorem uW : Tryz.prog.underlying 161 = some (.array 18 9) := by kernel_rfl
theorem iW : (Tryz.prog.info? 161).map (·.size) = some wordsC.size := by kernel_rfl

set_option maxHeartbeats 2000000 in
set_option maxRecDepth 60000 in
theorem pkindOf_any (l : List UInt8) (w : World) (r : Nat) (hv : Vs r w) :
    Calls Tryz.prog 76 #[.string ⟨l.toArray⟩] w fun e w' => e = .returned (.tuple #[.int .i64 (Tmx.kindOf l), .bool (decide (0 < Tmx.kindOf l))]) ∧ w' = w := by
  obtain ⟨v, hv'⟩ : ∃ v, pf 18 l = v := ⟨_, rfl⟩
  have HV0 : Hid (pf 18 l = v) := hv'
  rw [show Tmx.kindOf l = v by rw [← pf_kind]; exact hv']
  clear hv'
  obtain ⟨wt, wf, hwe⟩ := hv.words
  have hwi := iW
  have hix := fun i hi => index_words i hi w
  clear hv
  generalize wordsC = cs at hwe hwi hix
  go_enter Tryz.func76, Tryz.ntmps76
  go_wp2_with (refine wpList_load_row rfl _ _ rfl 3 rfl wt cs wf _ hwe uW rfl hwi ?_)
  clear hwe hwi
  go_loop [7] (fun i => ∃ n : Nat, n ≤ 18 ∧ i = .int .i64 ((18 - n : Nat) : Int) ∧ Hid (pf n l = v)) (fun i => 18 - (intOf i).toNat)
  case atStart => exact ⟨18, Nat.le_refl _, rfl, HV0⟩
  case round =>
    clear HV0
    obtain ⟨n, hn, rfl, HV⟩ := hrel
    cases n with
    | zero =>
      clear hix
      go_wp2_with fail
      go_ret2
      have h0 := HV.out
      rw [pf] at h0
      subst h0
      exact ⟨by rw [show decide ((0 : Int) < 0) = false from rfl]; rfl, rfl⟩
    | succ n =>
      obtain ⟨j, hj⟩ : ∃ j, 18 - (n + 1) = j := ⟨_, rfl⟩
      have HJ : Hid (17 - n = j) := by show _ = _; omega
      rw [hj]
      have hj17 : j < 18 := by omega
      clear hj
      have hx := hix j hj17
      clear hix
      obtain ⟨wd, hwd⟩ : ∃ wd, wordsT.getD j [] = wd := ⟨_, rfl⟩
      rw [hwd] at hx
      have HW : Hid (wordsT.getD j [] = wd) := hwd
      clear hwd
      cases t0 : (wd == [])
      · cases tw : (wd == l)
        · have HN : Hid (pf n l = v) := pf_no HV.out (by rw [HJ.out, HW.out]; exact tw)
          clear HV
          go_wp2_with (first | (refine wpList_index_run rfl _ _ _ rfl (.agg cs) (.int .i64 (j : Int)) (.string ⟨wd.toArray⟩) rfl rfl hx ?_) | fail)
          go_round
          case rel => exact ⟨n, by omega, by have := HJ.out; go_num, HN⟩
          case measure => have := HJ.out; simp [intOf]; omega
        · have HN : Hid (v = (j : Int) ∧ 0 < j) := by
            have h0 : wd ≠ [] := by simpa using t0
            have := pf_yes HV.out (by rw [HJ.out, HW.out]; exact tw) (by rw [HJ.out, HW.out]; exact h0)
            rw [HJ.out] at this
            refine ⟨this, Nat.pos_of_ne_zero ?_⟩
            intro e
            rw [e] at HW
            exact h0 HW.out.symm
          clear HV
          go_wp2_with (first | (refine wpList_index_run rfl _ _ _ rfl (.agg cs) (.int .i64 (j : Int)) (.string ⟨wd.toArray⟩) rfl rfl hx ?_) | fail)
          go_ret2
          refine ⟨?_, rfl⟩
          rw [HN.out.1, decide_eq_true (by have := HN.out.2; omega)]
          rfl
      · have HN : Hid (pf n l = v) := pf_empty HV.out (by rw [HJ.out, HW.out]; simpa using t0)
        clear HV
        go_wp2_with (first | (refine wpList_index_run rfl _ _ _ rfl (.agg cs) (.int .i64 (j : Int)) (.string ⟨wd.toArray⟩) rfl rfl hx ?_) | fail)
        go_round
        case rel => exact ⟨n, by omega, by have := HJ.out; go_num, HN⟩
        case measure => have := HJ.out; simp [intOf]; omega
end Go.Proofs.YthfjmcomhccbaaaGreatDoor

namespace Go.Proofs.YthfjmcomhccbaaaGreatDoor
open Go.RowKit Tmx
set_option maxRecDepth 60000

theorem lower_drop {l : List UInt8} {j : Nat} (h : j < l.length) : lower (l.drop j) = (decide (97 ≤ l[j]) && decide (l[j] ≤ 122) && lower (l.drop (j + 1))) := by
  rw [List.drop_eq_getElem_cons h, lower]
theorem kindOf_nn (l : List UInt8) : 0 ≤ Tmx.kindOf l := by
  rw [← pf_kind]
  exact (pf_bd 18 l (Nat.le_refl _)).1
theorem nameB_lower {l : List UInt8} (h1 : (l == []) = false) (h2 : l.length ≤ 8) (h3 : (l == [100, 101, 102]) = false) (h4 : lower l = true) : nameB l = !decide (0 < Tmx.kindOf l) := by
  unfold nameB
  have h := kindOf_nn l
  by_cases h5 : 0 < Tmx.kindOf l
  · rw [decide_eq_true h5, decide_eq_false (show ¬ Tmx.kindOf l ≤ 0 by omega)]
    simp
  · rw [decide_eq_false h5, decide_eq_true (show Tmx.kindOf l ≤ 0 by omega)]
    simp [h1, h2, h3, h4]
theorem nameB_upper {l : List UInt8} (h4 : lower l = false) : nameB l = false := by
  unfold nameB
  rw [h4]
  simp

set_option maxHeartbeats 1000000 in
set_option maxRecDepth 60000 in
theorem pname_any (l : List UInt8) (w : World) (r : Nat) (hv : Vs r w) (hl : l.length ≤ 4611686018427387904) :
    Calls Tryz.prog 57 #[.string ⟨l.toArray⟩] w fun e w' => e = .returned (.bool (nameB l)) ∧ w' = w := by
  have HVS : Hid (Vs r w) := hv
  clear hv
  cases t1 : (l == [])
  · have hne : 1 ≤ l.length := by
      cases l with
      | nil => simp at t1
      | cons => simp
    by_cases t2 : 8 < l.length
    · rw [show nameB l = false by unfold nameB; rw [decide_eq_false (show ¬ l.length ≤ 8 by omega)]; simp]
      go_enter Tryz.func57, Tryz.ntmps57
      go_wp2_with fail
      go_ret
      exact ⟨rfl, rfl⟩
    · cases t3 : (l == [100, 101, 102])
      · have HV : Hid ((lower l = true → nameB l = !decide (0 < Tmx.kindOf l)) ∧ (lower l = false → nameB l = false)) := ⟨nameB_lower t1 (by omega) t3, nameB_upper⟩
        generalize nameB l = v at HV ⊢
        go_enter Tryz.func57, Tryz.ntmps57
        go_wp2_with fail
        go_loopg [3, 20] l.length (fun g _ i wr => ∃ j : Nat, j ≤ l.length ∧ g = l.length - j ∧ i = .int .i64 (j : Int) ∧ Hid (lower (l.drop j) = lower l) ∧ wr = w)
        case atStart => exact ⟨0, Nat.zero_le _, by simp, rfl, by show lower (l.drop 0) = _; simp, rfl⟩
        case round =>
          obtain ⟨j, hj, rfl, rfl, hv, rfl⟩ := hrel
          by_cases hlt : j < l.length
          · have hd := lower_drop hlt
            obtain ⟨d, hdd⟩ : ∃ d, l[j] = d := ⟨_, rfl⟩
            rw [hdd] at hd
            have hby : ({ data := l.toArray } : ByteArray)[j]'(by simpa [ByteArray.size] using hlt) = d := hdd
            clear hdd
            by_cases q1 : (d.toNat : Int) < 97
            · have HF : Hid (v = false) := by
                have h0 := hv.out
                have : ¬ (97 ≤ d) := by rw [UInt8.le_iff_toNat_le]; show ¬ 97 ≤ d.toNat; omega
                rw [hd, decide_eq_false this] at h0
                exact HV.out.2 (by simpa using h0.symm)
              have e1 : decide ((d.toNat : Int) < 97) = true := by simp; omega
              clear hd
              go_wp2_with fail
              go_ret
              exact ⟨by rw [HF.out]; rfl, rfl⟩
            · have e1 : decide ((d.toNat : Int) < 97) = false := by simp; omega
              by_cases q2 : 122 < (d.toNat : Int)
              · have HF : Hid (v = false) := by
                  have h0 := hv.out
                  have : ¬ (d ≤ 122) := by rw [UInt8.le_iff_toNat_le]; show ¬ d.toNat ≤ 122; omega
                  rw [hd, decide_eq_false this] at h0
                  exact HV.out.2 (by simpa using h0.symm)
                have e2 : decide ((122 : Int) < (d.toNat : Int)) = true := by simp; omega
                clear hd
                go_wp2_with fail
                go_ret
                exact ⟨by rw [HF.out]; rfl, rfl⟩
              · have e2 : decide ((122 : Int) < (d.toNat : Int)) = false := by simp; omega
                have HF : Hid (lower (l.drop (j + 1)) = lower l) := by
                  have h0 := hv.out
                  have a1 : 97 ≤ d := by rw [UInt8.le_iff_toNat_le]; show 97 ≤ d.toNat; omega
                  have a2 : d ≤ 122 := by rw [UInt8.le_iff_toNat_le]; show d.toNat ≤ 122; omega
                  rw [hd, decide_eq_true a1, decide_eq_true a2] at h0
                  show lower (l.drop (j + 1)) = _
                  simpa using h0
                clear hd
                go_wp2_with fail
                go_roundg (l.length - (j + 1))
                case measure => omega
                case rel => exact ⟨j + 1, hlt, rfl, by go_num, HF, rfl⟩
          · have HF : Hid (v = !decide (0 < Tmx.kindOf l)) := by
              have h0 := hv.out
              rw [List.drop_of_length_le (by omega), lower] at h0
              exact HV.out.1 h0.symm
            go_wp2_with fail
            refine (pkindOf_any l _ r HVS.out).mono ?_
            rintro e w1 ⟨rfl, rfl⟩
            go_wp2_with fail
            go_ret
            exact ⟨by rw [HF.out]; rfl, rfl⟩
      · rw [show nameB l = false by unfold nameB; rw [t3]; simp]
        go_enter Tryz.func57, Tryz.ntmps57
        go_wp2_with fail
        go_ret
        exact ⟨rfl, rfl⟩
  · obtain rfl : l = [] := by simpa using t1
    go_enter Tryz.func57, Tryz.ntmps57
    go_wp2_with fail
    go_ret
    exact ⟨rfl, rfl⟩
end Go.Proofs.YthfjmcomhccbaaaGreatDoor
