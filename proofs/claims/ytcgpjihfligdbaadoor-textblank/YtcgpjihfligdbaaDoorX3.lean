/-
  The program's Words: a text's words.
-/
import Derived.Test.YtcgpjihfligdbaaDoorMemR
import Derived.Test.YtcgpjihfligdbaaDoorPlainJ
import Derived.WalkKit
import Derived.Deep.LoopGhost
namespace Go.Proofs.YtcgpjihfligdbaaDoor
open Go.RowKit Tmx
set_option maxRecDepth 60000

/-- A text is put behind others, in a row of one's own. -/
theorem push_name (w : World) (lo : Nat) (v : Value) (ns : List (List UInt8)) (hA : NamesIn lo w v ns) (x : List UInt8) (hlen : ns.length ≤ 4000000) (hlo : lo ≤ w.heap.size) :
    ∃ g cap w', (Builtin.append_ #[36, 36] 36 #[v, .slice (some ⟨w.heap.size, 0, none⟩) 1 1]).run Tryd.prog (w.alloc (.cells #[.string ⟨x.toArray⟩] 9)) = .ok (.slice (some ⟨g, 0, none⟩) (ns.length + 1) cap) w' ∧
      NamesIn lo w' (.slice (some ⟨g, 0, none⟩) (ns.length + 1) cap) (ns ++ [x]) ∧ OwnNew w v (.slice (some ⟨g, 0, none⟩) (ns.length + 1) cap) ∧ w'.os = w.os ∧ w'.tape = w.tape ∧ w'.output = w.output ∧ w.heap.size ≤ w'.heap.size ∧ (∀ k, k < w.heap.size → v.ownBlock ≠ some k → w'.heap[k]? = w.heap[k]?) := by
  obtain ⟨i, hi, he⟩ := Option.map_eq_some_iff.1 i9
  simp only [Prod.mk.injEq] at he
  obtain ⟨hz, hs, hb⟩ := he
  have hA' : NamesIn lo (w.alloc (.cells #[.string ⟨x.toArray⟩] 9)) v ns := hA.along fun b _ h2 => Below.heap_alloc _ _ _ h2
  have hB : (w.alloc (.cells #[.string ⟨x.toArray⟩] 9)).heap[w.heap.size]? = some (.cells #[.string ⟨x.toArray⟩] 9 (0, 0)) := heap_alloc_new _ _
  obtain ⟨g, cap, w', hr, ho, hg, hat, hlt⟩ := run_append_lies (P := Tryd.prog) (w.alloc (.cells #[.string ⟨x.toArray⟩] 9)) 36 36 lo 9 i _ 1 16 u50 hi hz hs hb rfl (by decide) v ns.length _ hA' ⟨w.heap.size, 0, none⟩ 1 1 [.string ⟨x.toArray⟩] rfl
    (World.news_of_block hB) (by simp [Value.oneCell']) (by decide) (by simp only [maxLen]; omega) (by omega) (by simp; omega) (w.alloc (.cells #[.string ⟨x.toArray⟩] 9)).heap.size rfl
  have hz1 := hg.size
  rw [show (w.alloc (.cells #[.string ⟨x.toArray⟩] 9)).heap.size = w.heap.size + 1 by simp] at hz1 hat
  refine ⟨g, cap, w', hr, ?_, ?_, hg.os, hg.tape, hg.output, by omega, fun k hk hv => ?_⟩
  · unfold NamesIn
    rw [List.length_append, List.map_append]
    exact ho
  · intro b hb
    have : g = b := by simpa [Value.ownBlock] using hb
    subst this
    rcases hat with h | h
    · exact .inl h
    · exact .inr (by omega)
  · rw [hg.block k (by simp; omega) (fun e => hv e.symm)]
    exact Below.heap_alloc _ _ _ hk

theorem wd_slice {l : List UInt8} {i j : Nat} : ({ data := l.toArray } : ByteArray).extract i j = { data := ((l.drop i).take (j - i)).toArray } := by
  rw [ByteArray.extract_mk]
theorem take_one {l : List UInt8} {st i : Nat} (h : st ≤ i) (hi : i < l.length) {c : UInt8} (hc : l[i] = c) : (l.drop st).take (i + 1 - st) = (l.drop st).take (i - st) ++ [c] := by
  rw [show i + 1 - st = (i - st) + 1 by omega, List.take_add_one, List.getElem?_drop, show st + (i - st) = i by omega, List.getElem?_eq_getElem hi, hc]
  rfl
theorem flush_some {a : List UInt8} (h : a ≠ []) : flush a = [a] := by unfold flush; rw [if_neg h]
theorem flush_none {a : List UInt8} (h : a = []) : flush a = [] := by unfold flush; rw [if_pos h]
theorem tk_cons (a : List UInt8) (c : UInt8) (r : List UInt8) : tk a (c :: r) = if c = 32 ∨ c = 10 then flush a ++ tk [] r else if c = 40 ∨ c = 41 then flush a ++ ([c] :: tk [] r) else tk (a ++ [c]) r := rfl

/-- What holds ahead of the sign number i. -/
def WordsAt (w wr : World) (l : List UInt8) (out start ix : Value) (i : Nat) : Prop :=
  i ≤ l.length ∧ ix = .int .i64 (i : Int) ∧ ∃ (st : Nat) (p : Option Addr) (cap : Nat) (done : List (List UInt8)), st ≤ i ∧ start = .int .i64 (st : Int) ∧ out = .slice p done.length cap ∧ NamesIn w.heap.size wr out done ∧ done.length ≤ st ∧ Below w.heap.size w wr ∧ Hid (done ++ tk ((l.drop st).take (i - st)) (l.drop i) = tk [] l)

/-- A word that has come to its end is put behind. -/
theorem words_push {w wr : World} {p : Option Addr} {n cap : Nat} {done : List (List UInt8)} (hN : NamesIn w.heap.size wr (.slice p n cap) done) (hb : Below w.heap.size w wr) (x : List UInt8) (hlen : done.length ≤ 4000000) :
    ∃ g cap' w', (Builtin.append_ #[36, 36] 36 #[.slice p n cap, .slice (some ⟨wr.heap.size, 0, none⟩) 1 1]).run Tryd.prog (wr.alloc (.cells #[.string ⟨x.toArray⟩] 9)) = .ok (.slice (some ⟨g, 0, none⟩) (done.length + 1) cap') w' ∧
      NamesIn w.heap.size w' (.slice (some ⟨g, 0, none⟩) (done.length + 1) cap') (done ++ [x]) ∧ Below w.heap.size w w' := by
  obtain ⟨g, cap', w', hr, hN', _, h1, h2, h3, h4, h5⟩ := push_name wr w.heap.size _ done hN x hlen hb.size
  refine ⟨g, cap', w', hr, hN', ⟨h1.trans hb.os, h2.trans hb.tape, h3.trans hb.output, Nat.le_trans hb.size h4, fun k hk => ?_⟩⟩
  rw [h5 k (Nat.lt_of_lt_of_le hk hb.size) (fun e => by have := (hN.lt k e).1; omega)]
  exact hb.block k hk

set_option maxHeartbeats 8000000 in
set_option maxRecDepth 60000 in
theorem words_any (l : List UInt8) (w : World) (hl : l.length ≤ 2000000) :
    Calls Tryd.prog 20 #[.string ⟨l.toArray⟩] w fun e w' => (∃ p cap, e = .returned (.slice p (tk [] l).length cap) ∧ NamesIn w.heap.size w' (.slice p (tk [] l).length cap) (tk [] l)) ∧ Below w.heap.size w w' := by
  go_enter Tryd.func20, Tryd.ntmps20
  go_wp2_with fail
  go_loopg [3, 4, 8] l.length (fun g out start ix wr => ∃ i, g = l.length - i ∧ WordsAt w wr l out start ix i)
  case atStart => exact ⟨0, by simp, Nat.zero_le _, rfl, 0, none, 0, [], Nat.le_refl _, rfl, rfl, World.ownsRow_nil w _ 9 1, Nat.le_refl _, Below.refl _ _, by show [] ++ tk ((l.drop 0).take (0 - 0)) (l.drop 0) = tk [] l; simp⟩
  case round =>
    obtain ⟨i, rfl, hi, rfl, st, p, cap, done, hst, rfl, rfl, hN, hdl, hb, HT⟩ := hrel
    by_cases hlt : i < l.length
    · have hd : l.drop i = l[i] :: l.drop (i + 1) := List.drop_eq_getElem_cons hlt
      obtain ⟨c, hc⟩ : ∃ c, l[i] = c := ⟨_, rfl⟩
      rw [hc] at hd
      have hby : ({ data := l.toArray } : ByteArray)[i]'(by simpa [ByteArray.size] using hlt) = c := hc
      have HT1 : Hid (done ++ tk ((l.drop st).take (i - st)) (c :: l.drop (i + 1)) = tk [] l) := by
        show _ = _
        rw [← hd]
        exact HT.out
      have hone := take_one hst hlt hc
      have hx1 := wd_slice (l := l) (i := st) (j := i)
      have hx2 := wd_slice (l := l) (i := i) (j := i + 1)
      have he2 : (l.drop i).take (i + 1 - i) = [c] := by rw [hd, show i + 1 - i = 1 by omega]; rfl
      rw [he2] at hx2
      have hnl : ∀ x : List UInt8, x = (l.drop st).take (i - st) → (st < i → x ≠ []) ∧ (¬ st < i → x = []) := fun x hx => by
        have hxl : x.length = i - st := by rw [hx, List.length_take, List.length_drop]; omega
        refine ⟨fun h e => ?_, fun h => List.eq_nil_of_length_eq_zero (by omega)⟩
        rw [e] at hxl
        simp at hxl
        omega
      obtain ⟨a, ha⟩ : ∃ a, (l.drop st).take (i - st) = a := ⟨_, rfl⟩
      rw [ha] at hx1 HT1 hone
      have hna := hnl a ha.symm
      clear hnl HT hd ha hc he2
      have e10 : (l.drop (i + 1)).take (i + 1 - (i + 1)) = [] := by simp
      by_cases hE : c = 32 ∨ c = 10 ∨ c = 40 ∨ c = 41
      · by_cases hsi : st < i
        · have hfl : flush a = [a] := flush_some (hna.1 hsi)
          obtain ⟨g1, cap1, w1, hr1, hN1, hb1⟩ := words_push hN hb a (by omega)
          have HR1 : Hid ((Builtin.append_ #[36, 36] 36 #[.slice p done.length cap, .slice (some ⟨wr.heap.size, 0, none⟩) 1 1]).run Tryd.prog (wr.alloc (.cells #[.string ⟨a.toArray⟩] 9)) = .ok (.slice (some ⟨g1, 0, none⟩) (done.length + 1) cap1) w1) := hr1
          clear hr1 hna
          rcases hE with rfl | rfl | rfl | rfl
          · have HT2 : Hid ((done ++ [a]) ++ tk [] (l.drop (i + 1)) = tk [] l) := by
              have h0 := HT1.out
              rw [tk_cons, if_pos (by decide), hfl] at h0
              show _ = _
              rw [← h0]
              simp
            clear HT1 hone hfl
            go_wp2_with (first | (at_builtin; first | (refine wpList_append_run rfl _ _ 36 rfl _ _ _ rfl rfl HR1.out ?_)) | fail)
            go_roundg (l.length - (i + 1))
            case measure => omega
            case rel => exact ⟨i + 1, rfl, hlt, by go_num, i + 1, some ⟨g1, 0, none⟩, cap1, done ++ [a], Nat.le_refl _, by go_num, by simp, by simpa using hN1, by simp; omega, hb1, by show _ = _; rw [e10]; exact HT2.out⟩
          · have HT2 : Hid ((done ++ [a]) ++ tk [] (l.drop (i + 1)) = tk [] l) := by
              have h0 := HT1.out
              rw [tk_cons, if_pos (by decide), hfl] at h0
              show _ = _
              rw [← h0]
              simp
            clear HT1 hone hfl
            go_wp2_with (first | (at_builtin; first | (refine wpList_append_run rfl _ _ 36 rfl _ _ _ rfl rfl HR1.out ?_)) | fail)
            go_roundg (l.length - (i + 1))
            case measure => omega
            case rel => exact ⟨i + 1, rfl, hlt, by go_num, i + 1, some ⟨g1, 0, none⟩, cap1, done ++ [a], Nat.le_refl _, by go_num, by simp, by simpa using hN1, by simp; omega, hb1, by show _ = _; rw [e10]; exact HT2.out⟩
          · have HT2 : Hid (((done ++ [a]) ++ [[40]]) ++ tk [] (l.drop (i + 1)) = tk [] l) := by
              have h0 := HT1.out
              rw [tk_cons, if_neg (by decide), if_pos (by decide), hfl] at h0
              show _ = _
              rw [← h0]
              simp
            clear HT1 hone hfl
            have hN1' : NamesIn w.heap.size w1 (.slice (some ⟨g1, 0, none⟩) (done.length + 1) cap1) (done ++ [a]) := hN1
            obtain ⟨g2, cap2, w2, hr2, hN2, hb2⟩ := words_push hN1' hb1 [40] (by simp; omega)
            rw [List.length_append, List.length_singleton] at hr2 hN2
            have HR2 : Hid ((Builtin.append_ #[36, 36] 36 #[.slice (some ⟨g1, 0, none⟩) (done.length + 1) cap1, .slice (some ⟨w1.heap.size, 0, none⟩) 1 1]).run Tryd.prog (w1.alloc (.cells #[.string ⟨[(40 : UInt8)].toArray⟩] 9)) = .ok (.slice (some ⟨g2, 0, none⟩) (done.length + 1 + 1) cap2) w2) := hr2
            clear hr2 hN1'
            go_wp2_with (first | (at_builtin; first | (refine wpList_append_run rfl _ _ 36 rfl _ _ _ rfl rfl HR1.out ?_; clear HR1) | (refine wpList_append_run rfl _ _ 36 rfl _ _ _ rfl rfl HR2.out ?_; clear HR2)) | fail)
            go_roundg (l.length - (i + 1))
            case measure => omega
            case rel => exact ⟨i + 1, rfl, hlt, by go_num, i + 1, some ⟨g2, 0, none⟩, cap2, (done ++ [a]) ++ [[40]], Nat.le_refl _, by go_num, by simp, by simpa using hN2, by simp; omega, hb2, by show _ = _; rw [e10]; exact HT2.out⟩
          · have HT2 : Hid (((done ++ [a]) ++ [[41]]) ++ tk [] (l.drop (i + 1)) = tk [] l) := by
              have h0 := HT1.out
              rw [tk_cons, if_neg (by decide), if_pos (by decide), hfl] at h0
              show _ = _
              rw [← h0]
              simp
            clear HT1 hone hfl
            have hN1' : NamesIn w.heap.size w1 (.slice (some ⟨g1, 0, none⟩) (done.length + 1) cap1) (done ++ [a]) := hN1
            obtain ⟨g2, cap2, w2, hr2, hN2, hb2⟩ := words_push hN1' hb1 [41] (by simp; omega)
            rw [List.length_append, List.length_singleton] at hr2 hN2
            have HR2 : Hid ((Builtin.append_ #[36, 36] 36 #[.slice (some ⟨g1, 0, none⟩) (done.length + 1) cap1, .slice (some ⟨w1.heap.size, 0, none⟩) 1 1]).run Tryd.prog (w1.alloc (.cells #[.string ⟨[(41 : UInt8)].toArray⟩] 9)) = .ok (.slice (some ⟨g2, 0, none⟩) (done.length + 1 + 1) cap2) w2) := hr2
            clear hr2 hN1'
            go_wp2_with (first | (at_builtin; first | (refine wpList_append_run rfl _ _ 36 rfl _ _ _ rfl rfl HR1.out ?_; clear HR1) | (refine wpList_append_run rfl _ _ 36 rfl _ _ _ rfl rfl HR2.out ?_; clear HR2)) | fail)
            go_roundg (l.length - (i + 1))
            case measure => omega
            case rel => exact ⟨i + 1, rfl, hlt, by go_num, i + 1, some ⟨g2, 0, none⟩, cap2, (done ++ [a]) ++ [[41]], Nat.le_refl _, by go_num, by simp, by simpa using hN2, by simp; omega, hb2, by show _ = _; rw [e10]; exact HT2.out⟩
        · have hfl : flush a = [] := flush_none (hna.2 hsi)
          clear hna hx1
          rcases hE with rfl | rfl | rfl | rfl
          · have HT2 : Hid (done ++ tk [] (l.drop (i + 1)) = tk [] l) := by
              have h0 := HT1.out
              rw [tk_cons, if_pos (by decide), hfl] at h0
              exact h0
            clear HT1 hone hfl
            go_wp2_with fail
            go_roundg (l.length - (i + 1))
            case measure => omega
            case rel => exact ⟨i + 1, rfl, hlt, by go_num, i + 1, p, cap, done, Nat.le_refl _, by go_num, rfl, hN, by omega, hb, by show _ = _; rw [e10]; exact HT2.out⟩
          · have HT2 : Hid (done ++ tk [] (l.drop (i + 1)) = tk [] l) := by
              have h0 := HT1.out
              rw [tk_cons, if_pos (by decide), hfl] at h0
              exact h0
            clear HT1 hone hfl
            go_wp2_with fail
            go_roundg (l.length - (i + 1))
            case measure => omega
            case rel => exact ⟨i + 1, rfl, hlt, by go_num, i + 1, p, cap, done, Nat.le_refl _, by go_num, rfl, hN, by omega, hb, by show _ = _; rw [e10]; exact HT2.out⟩
          · have HT2 : Hid ((done ++ [[40]]) ++ tk [] (l.drop (i + 1)) = tk [] l) := by
              have h0 := HT1.out
              rw [tk_cons, if_neg (by decide), if_pos (by decide), hfl] at h0
              show _ = _
              rw [← h0]
              simp
            clear HT1 hone hfl
            obtain ⟨g2, cap2, w2, hr2, hN2, hb2⟩ := words_push hN hb [40] (by omega)
            have HR2 : Hid ((Builtin.append_ #[36, 36] 36 #[.slice p done.length cap, .slice (some ⟨wr.heap.size, 0, none⟩) 1 1]).run Tryd.prog (wr.alloc (.cells #[.string ⟨[(40 : UInt8)].toArray⟩] 9)) = .ok (.slice (some ⟨g2, 0, none⟩) (done.length + 1) cap2) w2) := hr2
            clear hr2
            go_wp2_with (first | (at_builtin; first | (refine wpList_append_run rfl _ _ 36 rfl _ _ _ rfl rfl HR2.out ?_)) | fail)
            go_roundg (l.length - (i + 1))
            case measure => omega
            case rel => exact ⟨i + 1, rfl, hlt, by go_num, i + 1, some ⟨g2, 0, none⟩, cap2, done ++ [[40]], Nat.le_refl _, by go_num, by simp, by simpa using hN2, by simp; omega, hb2, by show _ = _; rw [e10]; exact HT2.out⟩
          · have HT2 : Hid ((done ++ [[41]]) ++ tk [] (l.drop (i + 1)) = tk [] l) := by
              have h0 := HT1.out
              rw [tk_cons, if_neg (by decide), if_pos (by decide), hfl] at h0
              show _ = _
              rw [← h0]
              simp
            clear HT1 hone hfl
            obtain ⟨g2, cap2, w2, hr2, hN2, hb2⟩ := words_push hN hb [41] (by omega)
            have HR2 : Hid ((Builtin.append_ #[36, 36] 36 #[.slice p done.length cap, .slice (some ⟨wr.heap.size, 0, none⟩) 1 1]).run Tryd.prog (wr.alloc (.cells #[.string ⟨[(41 : UInt8)].toArray⟩] 9)) = .ok (.slice (some ⟨g2, 0, none⟩) (done.length + 1) cap2) w2) := hr2
            clear hr2
            go_wp2_with (first | (at_builtin; first | (refine wpList_append_run rfl _ _ 36 rfl _ _ _ rfl rfl HR2.out ?_)) | fail)
            go_roundg (l.length - (i + 1))
            case measure => omega
            case rel => exact ⟨i + 1, rfl, hlt, by go_num, i + 1, some ⟨g2, 0, none⟩, cap2, done ++ [[41]], Nat.le_refl _, by go_num, by simp, by simpa using hN2, by simp; omega, hb2, by show _ = _; rw [e10]; exact HT2.out⟩
      · have HT2 : Hid (done ++ tk (a ++ [c]) (l.drop (i + 1)) = tk [] l) := by
          have h0 := HT1.out
          rw [tk_cons, if_neg (fun h => hE (by rcases h with h | h; exact Or.inl h; exact Or.inr (Or.inl h))), if_neg (fun h => hE (Or.inr (Or.inr h)))] at h0
          exact h0
        have b1 : ((c.toNat : Int) == 32) = false := by rw [beq_eq_false_iff_ne]; intro h; exact hE (.inl (UInt8.toNat_inj.1 (by show c.toNat = 32; omega)))
        have b2 : ((c.toNat : Int) == 10) = false := by rw [beq_eq_false_iff_ne]; intro h; exact hE (.inr (.inl (UInt8.toNat_inj.1 (by show c.toNat = 10; omega))))
        have b3 : ((c.toNat : Int) == 40) = false := by rw [beq_eq_false_iff_ne]; intro h; exact hE (.inr (.inr (.inl (UInt8.toNat_inj.1 (by show c.toNat = 40; omega)))))
        have b4 : ((c.toNat : Int) == 41) = false := by rw [beq_eq_false_iff_ne]; intro h; exact hE (.inr (.inr (.inr (UInt8.toNat_inj.1 (by show c.toNat = 41; omega)))))
        clear HT1 hna hE hx1 hx2
        go_wp2_with fail
        go_roundg (l.length - (i + 1))
        case measure => omega
        case rel => exact ⟨i + 1, rfl, hlt, by go_num, st, p, cap, done, by omega, rfl, rfl, hN, by omega, hb, by show _ = _; rw [hone]; exact HT2.out⟩
    · obtain rfl : i = l.length := by omega
      have hx1 := wd_slice (l := l) (i := st) (j := l.length)
      have hal : (l.drop st).take (l.length - st) = l.drop st := List.take_of_length_le (by rw [List.length_drop]; omega)
      rw [hal] at hx1 HT
      have HT1 : Hid (done ++ flush (l.drop st) = tk [] l) := by
        have h0 := HT.out
        rw [List.drop_length, tk] at h0
        exact h0
      clear HT hal
      by_cases hsi : st < l.length
      · obtain ⟨a, ha⟩ : ∃ a, l.drop st = a := ⟨_, rfl⟩
        rw [ha] at hx1 HT1
        have HT2 : Hid (tk [] l = done ++ [a]) := by
          have h0 := HT1.out
          rw [flush_some (fun e => by rw [e] at ha; have := congrArg List.length ha; simp at this; omega)] at h0
          exact h0.symm
        clear HT1 ha
        obtain ⟨g1, cap1, w1, hr1, hN1, hb1⟩ := words_push hN hb a (by omega)
        have HR1 : Hid ((Builtin.append_ #[36, 36] 36 #[.slice p done.length cap, .slice (some ⟨wr.heap.size, 0, none⟩) 1 1]).run Tryd.prog (wr.alloc (.cells #[.string ⟨a.toArray⟩] 9)) = .ok (.slice (some ⟨g1, 0, none⟩) (done.length + 1) cap1) w1) := hr1
        clear hr1
        go_wp2_with (first | (at_builtin; first | (refine wpList_append_run rfl _ _ 36 rfl _ _ _ rfl rfl HR1.out ?_)) | fail)
        go_ret
        refine ⟨⟨some ⟨g1, 0, none⟩, cap1, by rw [HT2.out]; simp, ?_⟩, hb1⟩
        rw [HT2.out]
        simpa using hN1
      · have HT2 : Hid (tk [] l = done) := by
          have h0 := HT1.out
          rw [flush_none (List.drop_eq_nil_of_le (by omega)), List.append_nil] at h0
          exact h0.symm
        clear HT1 hx1
        go_wp2_with fail
        go_ret
        exact ⟨⟨p, cap, by rw [HT2.out]; rfl, by rw [HT2.out]; exact hN⟩, hb⟩
end Go.Proofs.YtcgpjihfligdbaaDoor
