/-
  Written, and read again: the walk of TextTurns, as far as the names.
-/
import Derived.Test.YtcgpjihfligdbaaDoorQ1
import Derived.Test.YtcgpjihfligdbaaDoorQ2
import Derived.Test.YtcgpjihfligdbaaDoorPlainLm
import Derived.Test.YtcgpjihfligdbaaDoorPlainM
import Derived.Test.YtcgpjihfligdbaaDoorW2m
import Derived.Deep.Cut
namespace Go.Proofs.YtcgpjihfligdbaaDoor
open Go.RowKit Tmx
set_option maxRecDepth 60000

theorem name_short {x : List UInt8} (h : nameB x = true) : x.length ≤ 8 := by
  unfold nameB at h
  simp at h
  exact h.1.1.1.2
theorem Good.ne {ns ds : List (List UInt8)} (h : Tmx.Good ns ds) : NE ns ∧ NE ds ∧ Brief ns ∧ Brief ds :=
  ⟨fun x hx => (name_low (h.nsOk x hx)).2.1, fun x hx => (name_low (h.dsOk x hx)).2.1, fun x hx => name_short (h.nsOk x hx), fun x hx => name_short (h.dsOk x hx)⟩

set_option maxRecDepth 60000 in
set_option maxHeartbeats 16000000 in
theorem turns_any (w : World) (l : List UInt8) (k n : Int) (f : F) (p pn pd : Option Addr) (cap cn cd : Nat) (ns ds : List (List UInt8)) (hs : Sl w p f) (hn : Tx w.heap.size w pn ns) (hd : Tx w.heap.size w pd ds) (hv : Vs w.heap.size w) (hp : pn = none → cn = 0) (hpd : pd = none → cd = 0)
    (hl : l.length ≤ 4000000) (hn1 : ns.length ≤ 1100000) (hd1 : ds.length ≤ 1100000) (hnl : ∀ x ∈ ns ++ ds, x.length ≤ 4000000) :
    Calls Tryd.prog 6 #[.string ⟨l.toArray⟩, .agg #[.int .i64 k, .int .i64 n, .slice p (len f) cap], .slice pn ns.length cn, .slice pd ds.length cd] w fun e w' => e = .returned (.bool true) ∧ Below w.heap.size w w' := by
  have bA : Below w.heap.size w (w.alloc (.cells #[.int .i64 k, .int .i64 n, .slice p (len f) cap] 24)) := (Below.refl _ _).alloc (Nat.le_refl _) _
  have bx0 := Box.new w (.int .i64 k) (.int .i64 n) (.slice p (len f) cap)
  have hvA : Vs (w.alloc (.cells #[.int .i64 k, .int .i64 n, .slice p (len f) cap] 24)).heap.size (w.alloc (.cells #[.int .i64 k, .int .i64 n, .slice p (len f) cap] 24)) := ⟨by have := hv.1; simp; omega, (hv.below bA).2⟩
  have hmm := @run_makeMap Tryd.prog
  go_enter Tryd.func6, Tryd.ntmps6
  go_wp2_with fail
  refine (alive_any _ hvA).mono ?_
  rintro e w1 ⟨rfl, hb1⟩
  have bx1 := bx0.below hb1
  have hwT : w.heap.size < w1.heap.size := bx1.lt
  have b01 : Below w.heap.size w w1 := bA.trans (hb1.mono (by simp))
  clear bx0 hb1 hvA bA
  -- the map, the empty list, the names
  have bM : Below w1.heap.size w1 (w1.alloc (.map #[] 0)) := (Below.refl _ _).alloc (Nat.le_refl _) _
  have hset := SetIs.made w1
  have bE : Below (w1.alloc (.map #[] 0)).heap.size (w1.alloc (.map #[] 0)) ((w1.alloc (.map #[] 0)).alloc (.cells #[] 9)) := (Below.refl _ _).alloc (Nat.le_refl _) _
  have zM : (w1.alloc (.map #[] 0)).heap.size = w1.heap.size + 1 := by simp
  have zE : ((w1.alloc (.map #[] 0)).alloc (.cells #[] 9)).heap.size = w1.heap.size + 2 := by simp
  have b03 : Below w.heap.size w ((w1.alloc (.map #[] 0)).alloc (.cells #[] 9)) := (b01.trans (bM.mono b01.size)).trans (bE.mono (by have := b01.size; omega))
  have hset3 := hset.below bE
  have bx3 := (bx1.below bM).below bE
  have hB : ((w1.alloc (.map #[] 0)).alloc (.cells #[] 9)).heap[w1.heap.size + 1]? = some (.cells #[] 9 (0, 0)) := by
    rw [← zM]
    exact heap_alloc_new _ _
  have hown : NamesIn (w1.heap.size + 1) ((w1.alloc (.map #[] 0)).alloc (.cells #[] 9)) (.slice (some ⟨w1.heap.size + 1, 0, none⟩) 0 0) [] := ⟨rfl, .inr ⟨w1.heap.size + 1, 0, #[], rfl, Nat.le_refl _, hB, Nat.le_refl _, Nat.zero_le _, rfl, rfl⟩⟩
  have hz1 := b01.size
  obtain ⟨v4, w4, hr4, hN4, hg4⟩ := append_names _ (w1.heap.size + 1) w1.heap.size _ [] hown pn cn ns (Strs.of_tx (hn.along fun b _ hs => b03.block b hs) hz1) hp (by simp; omega) (by omega) 36
  rw [List.nil_append] at hN4
  have hlow4 : ∀ b, b < w1.heap.size + 1 → w4.heap[b]? = ((w1.alloc (.map #[] 0)).alloc (.cells #[] 9)).heap[b]? := fun b hb => grown_block hown hg4 hb (by omega)
  have b04 : Below w.heap.size w w4 := ⟨hg4.os.trans b03.os, hg4.tape.trans b03.tape, hg4.output.trans b03.output, Nat.le_trans b03.size hg4.size, fun b hb => by rw [hlow4 b (by omega)]; exact b03.block b hb⟩
  obtain ⟨v5, w5, hr5, hN5, hg5⟩ := append_names w4 (w1.heap.size + 1) w1.heap.size v4 ns hN4 pd cd ds (Strs.of_tx (hd.along fun b _ hs => b04.block b hs) hz1) hpd (by omega) (by have := hg4.size; omega) 36
  have hlow5 : ∀ b, b < w1.heap.size + 1 → w5.heap[b]? = ((w1.alloc (.map #[] 0)).alloc (.cells #[] 9)).heap[b]? := fun b hb => by
    rw [grown_block hN4 hg5 hb (by have := hg4.size; omega), hlow4 b hb]
  have hz5 : w1.heap.size + 2 ≤ w5.heap.size := by have := hg4.size; have := hg5.size; omega
  have b05 : Below w.heap.size w w5 := ⟨hg5.os.trans b04.os, hg5.tape.trans b04.tape, hg5.output.trans b04.output, Nat.le_trans b04.size hg5.size, fun b hb => by rw [hlow5 b (by omega)]; exact b03.block b hb⟩
  have bx5 : Box w5 w.heap.size (.int .i64 k) (.int .i64 n) (.slice p (len f) cap) := bx3.of_block (hlow5 _ (by have := bx1.lt; omega))
  have hset5 : SetIs w5 w1.heap.size 0 [] := by
    obtain ⟨D, ⟨es, clock, q1, q2⟩, q3⟩ := hset3
    exact ⟨D, ⟨es, clock, by rw [hlow5 _ (by omega)]; exact q1, q2⟩, q3⟩
  obtain ⟨p4, c4, rfl⟩ := hN4.form
  obtain ⟨p5, c5, rfl⟩ := hN5.form
  have HR4 : Hid ((Builtin.append_ #[36, 36] 36 #[.slice (some ⟨w1.heap.size + 1, 0, none⟩) 0 0, .slice pn ns.length cn]).run Tryd.prog ((w1.alloc (.map #[] 0)).alloc (.cells #[] 9)) = .ok (.slice p4 ns.length c4) w4) := hr4
  have HR5 : Hid ((Builtin.append_ #[36, 36] 36 #[.slice p4 ns.length c4, .slice pd ds.length cd]).run Tryd.prog w4 = .ok (.slice p5 (ns ++ ds).length c5) w5) := hr5
  clear hr4 hr5 hset hset3 bx3 bx1 hown hB hg4 hg5 hN4 hlow4 hlow5 b03 b04 bM bE zE
  obtain ⟨al, hal⟩ : ∃ al, ns ++ ds = al := ⟨_, rfl⟩
  rw [hal] at hN5 HR5 hnl
  have HAL : Hid (ns ++ ds = al) := hal
  have hall : al.length ≤ 2200000 := by rw [← hal, List.length_append]; omega
  clear hal
  go_wp2_with (first | (at_builtin; first | (refine wpList_append_run rfl _ _ 36 rfl _ _ _ rfl rfl HR4.out ?_; clear HR4) | (refine wpList_append_run rfl _ _ 36 rfl _ _ _ rfl rfl HR5.out ?_; clear HR5)) | fail)
  go_loopg [28] al.length (fun g ix wr => ∃ i, g = al.length - i ∧ i ≤ al.length ∧ ix = .int .i64 (i : Int) ∧ NamesIn (w1.heap.size + 1) wr (.slice p5 al.length c5) al ∧ SetIs wr w1.heap.size i (al.take i) ∧ Box wr w.heap.size (.int .i64 k) (.int .i64 n) (.slice p (len f) cap) ∧ Below w.heap.size w wr ∧ Hid ((∀ x ∈ al.take i, nameB x = true ∧ x.head? ≠ some 120) ∧ (al.take i).Nodup))
  case atStart => exact ⟨0, by simp, Nat.zero_le _, rfl, hN5, by simpa using hset5, bx5, b05, ⟨fun x hx => by simp at hx, by simp⟩⟩
  case round =>
    clear hN5 hset5 bx5 b05 hz5
    obtain ⟨i, rfl, hi, rfl, hN, hset, hbx, bw, HG⟩ := hrel
    by_cases hlt : i < al.length
    · obtain ⟨b, o, rfl, hbl, hc⟩ := hN.tx.1.at hlt
      obtain ⟨x, hx⟩ : ∃ x, al.getD i [] = x := ⟨_, rfl⟩
      rw [hx] at hc
      have hxm : x ∈ al := by
        rw [← hx, List.getD_eq_getElem?_getD, List.getElem?_eq_getElem hlt]
        exact List.getElem_mem hlt
      have htk : al.take (i + 1) = al.take i ++ [x] := by
        rw [List.take_add_one, ← hx, List.getD_eq_getElem?_getD, List.getElem?_eq_getElem hlt]
        rfl
      have hxl := hnl x hxm
      have HTK : Hid (al.take (i + 1) = al.take i ++ [x]) := htk
      clear htk hx
      go_wp2_with fail
      refine (name_any x wr (by omega)).mono ?_
      rintro e w6 ⟨rfl, hb6⟩
      have b06 : Below w.heap.size w w6 := bw.trans (hb6.mono bw.size)
      cases hNm : nameB x
      · go_wp2_with fail
        go_ret
        exact ⟨rfl, b06⟩
      · have hx8 := name_short hNm
        cases x with
        | nil => exact absurd hNm (by decide)
        | cons c t =>
          have hby : ({ data := (c :: t).toArray } : ByteArray)[0]'(by simp [ByteArray.size]) = c := rfl
          by_cases h120 : c = 120
          · subst h120
            go_wp2_with fail
            go_ret
            exact ⟨rfl, b06⟩
          · have b120 : ((c.toNat : Int) == 120) = false := by rw [beq_eq_false_iff_ne]; intro h; exact h120 (UInt8.toNat_inj.1 (by show c.toNat = 120; omega))
            obtain ⟨cc, hlook, hnot⟩ := (hset.below hb6).look (c :: t) hx8
            cases cc
            · obtain ⟨w7, hput, hset7, hg7⟩ := (hset.below hb6).put (c :: t) hx8 (by omega)
              have HRU : Hid ((Instr.mapUpdate 47 (.map (some w1.heap.size)) (.string ⟨(c :: t).toArray⟩) (.bool true)).run Tryd.prog w6 = .ok () w7) := hput
              have hN6 : NamesIn (w1.heap.size + 1) w6 (.slice (some ⟨b, o, none⟩) al.length c5) al := hN.along fun b _ h2 => hb6.block b h2
              have hN7 : NamesIn (w1.heap.size + 1) w7 (.slice (some ⟨b, o, none⟩) al.length c5) al := hN6.along fun b h1 h2 => hg7.block b h2 (by simp; omega)
              have bx7 : Box w7 w.heap.size (.int .i64 k) (.int .i64 n) (.slice p (len f) cap) := (hbx.below hb6).of_block (hg7.block _ (hbx.below hb6).lt (by simp; omega))
              have b07 : Below w.heap.size w w7 := ⟨hg7.os.trans b06.os, hg7.tape.trans b06.tape, hg7.output.trans b06.output, Nat.le_trans b06.size hg7.size, fun k hk => by rw [hg7.block k (by have := b06.size; omega) (by simp; omega)]; exact b06.block k hk⟩
              have HG7 : Hid ((∀ y ∈ al.take (i + 1), nameB y = true ∧ y.head? ≠ some 120) ∧ (al.take (i + 1)).Nodup) := by
                rw [HTK.out]
                refine ⟨fun y hy => ?_, ?_⟩
                · rcases List.mem_append.1 hy with h3 | h3
                  · exact HG.out.1 y h3
                  · obtain rfl : y = c :: t := by simpa using h3
                    exact ⟨hNm, by simpa using h120⟩
                · rw [List.nodup_append]
                  exact ⟨HG.out.2, by simp, fun a ha b hb e => hnot rfl (by
                    have : b = c :: t := by simpa using hb
                    rw [← this, ← e]
                    exact ha)⟩
              clear hput hN6 hN hbx hnot HG
              go_wp2_with (first | (at_mapUpdate; refine wpList_mapUpdate_run rfl _ _ _ 47 rfl _ _ _ rfl rfl rfl HRU.out ?_; clear HRU) | fail)
              go_roundg (al.length - (i + 1))
              case measure => omega
              case rel => exact ⟨i + 1, rfl, hlt, by go_num, hN7, by rw [HTK.out]; exact hset7, bx7, b07, HG7⟩
            · go_wp2_with fail
              go_ret
              exact ⟨rfl, b06⟩
    · obtain rfl : i = al.length := by omega
      have hgood : Tmx.Good ns ds := by
        have h3 := HG.out
        rw [List.take_length, ← HAL.out] at h3
        exact good_of h3.1 h3.2
      have HGD : Hid (Tmx.Good ns ds) := hgood
      clear hgood HG hset hN hnl
      by_cases hn8 : 8 < ns.length
      · go_wp2_with fail
        go_ret
        exact ⟨rfl, bw⟩
      · have hzw := bw.size
        have hTn : ∀ W : World, Below w.heap.size w W → Tx W.heap.size W pn ns := fun W hW => (hn.along fun b _ hs => hW.block b hs).mono hW.size
        have hTd : ∀ W : World, Below w.heap.size w W → Tx W.heap.size W pd ds := fun W hW => (hd.along fun b _ hs => hW.block b hs).mono hW.size
        have hVW : ∀ W : World, Below w.heap.size w W → Vs W.heap.size W := fun W hW => ⟨by have := hv.1; have := hW.size; omega, (hv.below hW).2⟩
        have HTN : Hid (∀ W : World, Below w.heap.size w W → Tx W.heap.size W pn ns) := hTn
        have HTD : Hid (∀ W : World, Below w.heap.size w W → Tx W.heap.size W pd ds) := hTd
        have HVW : Hid (∀ W : World, Below w.heap.size w W → Vs W.heap.size W) := hVW
        clear hTn hTd hVW hn hd hv
        obtain ⟨x0, x1, x2, _, _, _⟩ := hbx.facts
        go_wp2_with fail
        refine (rwrong_any f k n p cap ns.length ds.length wr (by omega) (by omega) (hs.below bw)).mono ?_
        rintro e w6 ⟨rfl, hb6⟩
        have b06 : Below w.heap.size w w6 := bw.trans (hb6.mono hzw)
        have bx6 := hbx.below hb6
        clear x0 x1 x2 hbx
        have hgn := Good.ne HGD.out
        cases tt : (wrongT ds.length ns.length k n f == 0)
        · clear bx6
          -- the text that came in
          have HP2 : Hid (Calls Tryd.prog 23 #[.string ⟨l.toArray⟩, .slice pn ns.length cn, .slice pd ds.length cd] w6 (ParsePost w6 (ansK (parseK ds ns l)))) := pparse_any w6 l ns ds pn pd cn cd (HTN.out w6 b06) (HTD.out w6 b06) (HVW.out w6 b06) hp (by omega) (by omega) (by omega)
          cases hPK : parseK ds ns l with
          | error y =>
            have hy := parse_err hPK
            rw [hPK] at HP2
            have ty : (y != 0) = true := by simpa using hy
            clear hPK
            go_wp2_with fail
            refine HP2.out.mono ?_
            rintro e a2 ⟨⟨q2, d2, rfl, _⟩, hba2⟩
            have ba2 : Below w.heap.size w a2 := b06.trans (hba2.mono b06.size)
            rw [show ansK (.error y) = ((0, 0, .nil), y) from rfl]
            go_wp2_with fail
            go_ret
            exact ⟨rfl, ba2.alloc ba2.size _⟩
          | ok u =>
            obtain ⟨hu1, hu2, hu3⟩ := parse_right (by omega) hPK
            rw [hPK] at HP2
            clear hPK
            rw [show ansK (.ok u) = (u, 0) from rfl] at HP2
            go_wp2_with fail
            refine HP2.out.mono ?_
            clear HP2
            rintro e a2 ⟨⟨q2, d2, rfl, hsu⟩, hba2⟩
            have ba2 : Below w.heap.size w a2 := b06.trans (hba2.mono b06.size)
            have hbA2 : Below a2.heap.size a2 (a2.alloc (.cells #[.int .i64 u.1, .int .i64 u.2.1, .slice q2 (len u.2.2) d2] 24)) := (Below.refl _ _).alloc (Nat.le_refl _) _
            have bxu := Box.new a2 (.int .i64 u.1) (.int .i64 u.2.1) (.slice q2 (len u.2.2) d2)
            have hsu3 := hsu.sl.below hbA2
            have ba3 : Below w.heap.size w (a2.alloc (.cells #[.int .i64 u.1, .int .i64 u.2.1, .slice q2 (len u.2.2) d2] 24)) := ba2.trans (hbA2.mono ba2.size)
            obtain ⟨X2, hX2⟩ : ∃ X2, ppT ds ns u.1 u.2.1 u.2.2 = X2 := ⟨_, rfl⟩
            have hXl : X2.length ≤ 24 * size u.2.2 + 12 := by rw [← hX2]; exact ppT_len hgn.2.2.2 hgn.2.2.1 hu1
            have HPR : Hid (Calls Tryd.prog 25 #[.agg #[.int .i64 u.1, .int .i64 u.2.1, .slice q2 (len u.2.2) d2], .slice pn ns.length cn, .slice pd ds.length cd] (a2.alloc (.cells #[.int .i64 u.1, .int .i64 u.2.1, .slice q2 (len u.2.2) d2] 24)) fun e w' => e = .returned (.string ⟨X2.toArray⟩) ∧ Below (a2.alloc (.cells #[.int .i64 u.1, .int .i64 u.2.1, .slice q2 (len u.2.2) d2] 24)).heap.size (a2.alloc (.cells #[.int .i64 u.1, .int .i64 u.2.1, .slice q2 (len u.2.2) d2] 24)) w') := by
              have := pprint_any _ u.1 u.2.1 u.2.2 q2 pn pd d2 cn cd ns ds hsu3 hu1 (HTN.out _ ba3) (HTD.out _ ba3) (HVW.out _ ba3) hp (by omega) (by rw [hX2]; omega)
              rw [hX2] at this
              exact this
            go_wp2_with fail
            refine HPR.out.mono ?_
            clear HPR
            rintro e a4 ⟨rfl, hba4⟩
            have bxu4 := bxu.below hba4
            have hsu4 := hsu3.below hba4
            have ba4 : Below w.heap.size w a4 := ba3.trans (hba4.mono ba3.size)
            by_cases h15 : X2.length ≤ 1500
            · have hR : ansK (parseK ds ns X2) = ((u.1, u.2.1, zed u.2.2), 0) := by rw [← hX2]; exact parse_written HGD.out ⟨hgn.1, hgn.2.1⟩ hu1 hu2 (by omega) (by rw [hX2]; exact h15)
              have HP5 : Hid (Calls Tryd.prog 23 #[.string ⟨X2.toArray⟩, .slice pn ns.length cn, .slice pd ds.length cd] a4 (ParsePost a4 ((u.1, u.2.1, zed u.2.2), 0))) := by
                have := pparse_any a4 X2 ns ds pn pd cn cd (HTN.out a4 ba4) (HTD.out a4 ba4) (HVW.out a4 ba4) hp (by omega) (by omega) (by omega)
                rw [hR] at this
                exact this
              clear hR bxu hsu3 hbA2 ba2
              go_wp2_with fail
              refine HP5.out.mono ?_
              clear HP5
              rintro e a5 ⟨⟨q5, d5, rfl, hsv⟩, hba5⟩
              have bxu5 := bxu4.below hba5
              have ba5 : Below w.heap.size w a5 := ba4.trans (hba5.mono ba4.size)
              have hbA5 : Below a5.heap.size a5 (a5.alloc (.cells #[.int .i64 u.1, .int .i64 u.2.1, .slice q5 (len (zed u.2.2)) d5] 24)) := (Below.refl _ _).alloc (Nat.le_refl _) _
              have bxv := Box.new a5 (.int .i64 u.1) (.int .i64 u.2.1) (.slice q5 (len (zed u.2.2)) d5)
              have bxu6 := bxu5.below hbA5
              have ba6 : Below w.heap.size w (a5.alloc (.cells #[.int .i64 u.1, .int .i64 u.2.1, .slice q5 (len (zed u.2.2)) d5] 24)) := ba5.trans (hbA5.mono ba5.size)
              have hsv6 := hsv.sl.below hbA5
              have HSM := rsame_any (size u.2.2 + 1) u.2.2 (zed u.2.2) u.1 u.2.1 u.1 u.2.1 q2 q5 d2 d5 (a5.alloc (.cells #[.int .i64 u.1, .int .i64 u.2.1, .slice q5 (len (zed u.2.2)) d5] 24)) (by omega) (by omega) (by rw [size_zed]; omega) ((hsu4.below hba5).below hbA5) hsv6
              rw [sameT_zed] at HSM
              have HS2 : Hid (Calls Tryd.prog 14 #[.agg #[.int .i64 u.1, .int .i64 u.2.1, .slice q2 (len u.2.2) d2], .agg #[.int .i64 u.1, .int .i64 u.2.1, .slice q5 (len (zed u.2.2)) d5]] (a5.alloc (.cells #[.int .i64 u.1, .int .i64 u.2.1, .slice q5 (len (zed u.2.2)) d5] 24)) fun e w' => e = .returned (.bool true) ∧ Below (a5.alloc (.cells #[.int .i64 u.1, .int .i64 u.2.1, .slice q5 (len (zed u.2.2)) d5] 24)).heap.size (a5.alloc (.cells #[.int .i64 u.1, .int .i64 u.2.1, .slice q5 (len (zed u.2.2)) d5] 24)) w') := HSM
              clear HSM
              obtain ⟨y0, y1, y2, _, _, _⟩ := bxu5.facts
              have lxu := bxu5.lt
              go_wp2_with fail
              refine HS2.out.mono ?_
              clear HS2
              rintro e a7 ⟨rfl, hba7⟩
              have bxv7 := bxv.below hba7
              have ba7 : Below w.heap.size w a7 := ba6.trans (hba7.mono ba6.size)
              have HPR2 : Hid (Calls Tryd.prog 25 #[.agg #[.int .i64 u.1, .int .i64 u.2.1, .slice q5 (len (zed u.2.2)) d5], .slice pn ns.length cn, .slice pd ds.length cd] a7 fun e w' => e = .returned (.string ⟨X2.toArray⟩) ∧ Below a7.heap.size a7 w') := by
                have := pprint_any a7 u.1 u.2.1 (zed u.2.2) q5 pn pd d5 cn cd ns ds (hsv6.below hba7) (by rw [lookT_zed]; exact hu1) (HTN.out _ ba7) (HTD.out _ ba7) (HVW.out _ ba7) hp (by omega) (by rw [ppT_zed, hX2]; omega)
                rw [ppT_zed, hX2] at this
                exact this
              obtain ⟨z0, z1, z2, _, _, _⟩ := bxv7.facts
              go_wp2_with fail
              refine HPR2.out.mono ?_
              rintro e a8 ⟨rfl, hba8⟩
              go_wp2_with fail
              go_ret
              exact ⟨by first | rfl | simp, ba7.trans (hba8.mono ba7.size)⟩
            · have HP5 : Hid (Calls Tryd.prog 23 #[.string ⟨X2.toArray⟩, .slice pn ns.length cn, .slice pd ds.length cd] a4 (ParsePost a4 ((0, 0, .nil), 4))) := by
                have := pparse_any a4 X2 ns ds pn pd cn cd (HTN.out a4 ba4) (HTD.out a4 ba4) (HVW.out a4 ba4) hp (by omega) (by omega) (by omega)
                rw [parse_long (by omega)] at this
                exact this
              clear bxu hsu3 hbA2 ba2
              go_wp2_with fail
              refine HP5.out.mono ?_
              rintro e a5 ⟨⟨q5, d5, rfl, _⟩, hba5⟩
              have ba5 : Below w.heap.size w a5 := ba4.trans (hba5.mono ba4.size)
              go_wp2_with fail
              go_ret
              exact ⟨rfl, ba5.alloc ba5.size _⟩
        · obtain ⟨hlk, hsz⟩ := wrong_zero (show wrongT ds.length ns.length k n f = 0 by simpa using tt)
          obtain ⟨x0, x1, x2, _, _, _⟩ := bx6.facts
          have HBC : Hid (Calls Tryd.prog 28 #[.agg #[.int .i64 k, .int .i64 n, .slice p (len f) cap], .int .i64 (ns.length : Int)] w6 fun e w' => e = .returned (.int .i64 ((boundF f (shpL k) ns.length : Nat) : Int)) ∧ Below w6.heap.size w6 w') := bound_any (size f + 1) f k n p cap ns.length ds.length 1 w6 (by omega) hlk (by omega) (by omega) (hs.below b06)
          obtain ⟨bd, hbd⟩ : ∃ bd, boundF f (shpL k) ns.length = bd := ⟨_, rfl⟩
          rw [hbd] at HBC
          have HBD : Hid (boundF f (shpL k) ns.length = bd) := hbd
          clear hbd
          go_wp2_with fail
          refine HBC.out.mono ?_
          clear HBC x0 x1 x2
          rintro e w7 ⟨rfl, hb7⟩
          have b07 : Below w.heap.size w w7 := b06.trans (hb7.mono b06.size)
          have bx7 := bx6.below hb7
          clear bx6
          by_cases hb8 : bd ≤ 8
          · have hblk : boundF f (shpL k) ns.length ≤ 8 := by rw [HBD.out]; exact hb8
            obtain ⟨X1, hX1⟩ : ∃ X1, ppT ds ns k n f = X1 := ⟨_, rfl⟩
            have hX1l : X1.length ≤ 24 * size f + 12 := by rw [← hX1]; exact ppT_len hgn.2.2.2 hgn.2.2.1 hlk
            have HPR : Hid (Calls Tryd.prog 25 #[.agg #[.int .i64 k, .int .i64 n, .slice p (len f) cap], .slice pn ns.length cn, .slice pd ds.length cd] w7 fun e w' => e = .returned (.string ⟨X1.toArray⟩) ∧ Below w7.heap.size w7 w') := by
              have := pprint_any w7 k n f p pn pd cap cn cd ns ds (hs.below b07) hlk (HTN.out _ b07) (HTD.out _ b07) (HVW.out _ b07) hp (by omega) (by rw [hX1]; omega)
              rw [hX1] at this
              exact this
            obtain ⟨x0, x1, x2, _, _, _⟩ := bx7.facts
            go_wp2_with fail
            refine HPR.out.mono ?_
            clear HPR x0 x1 x2
            rintro e w8 ⟨rfl, hb8'⟩
            have b08 : Below w.heap.size w w8 := b07.trans (hb8'.mono b07.size)
            have bx8 := bx7.below hb8'
            clear bx7
            by_cases h15 : X1.length ≤ 1500
            · have HP9 : Hid (Calls Tryd.prog 23 #[.string ⟨X1.toArray⟩, .slice pn ns.length cn, .slice pd ds.length cd] w8 (ParsePost w8 ((k, n, zed f), 0))) := by
                have := pparse_any w8 X1 ns ds pn pd cn cd (HTN.out w8 b08) (HTD.out w8 b08) (HVW.out w8 b08) hp (by omega) (by omega) (by omega)
                rw [← hX1, parse_written HGD.out ⟨hgn.1, hgn.2.1⟩ hlk hblk (by omega) (by rw [hX1]; exact h15), hX1] at this
                exact this
              go_wp2_with fail
              refine HP9.out.mono ?_
              clear HP9
              rintro e w9 ⟨⟨q9, d9, rfl, hs9⟩, hb9⟩
              have b09 : Below w.heap.size w w9 := b08.trans (hb9.mono b08.size)
              have bx9 := bx8.below hb9
              have hbA9 : Below w9.heap.size w9 (w9.alloc (.cells #[.int .i64 k, .int .i64 n, .slice q9 (len (zed f)) d9] 24)) := (Below.refl _ _).alloc (Nat.le_refl _) _
              have b10 : Below w.heap.size w (w9.alloc (.cells #[.int .i64 k, .int .i64 n, .slice q9 (len (zed f)) d9] 24)) := b09.trans (hbA9.mono b09.size)
              have HSM := rsame_any (size f + 1) f (zed f) k n k n p q9 cap d9 (w9.alloc (.cells #[.int .i64 k, .int .i64 n, .slice q9 (len (zed f)) d9] 24)) (by omega) (by omega) (by rw [size_zed]; omega) (hs.below b10) (hs9.sl.below hbA9)
              rw [sameT_zed] at HSM
              have HS1 : Hid (Calls Tryd.prog 14 #[.agg #[.int .i64 k, .int .i64 n, .slice p (len f) cap], .agg #[.int .i64 k, .int .i64 n, .slice q9 (len (zed f)) d9]] (w9.alloc (.cells #[.int .i64 k, .int .i64 n, .slice q9 (len (zed f)) d9] 24)) fun e w' => e = .returned (.bool true) ∧ Below (w9.alloc (.cells #[.int .i64 k, .int .i64 n, .slice q9 (len (zed f)) d9] 24)).heap.size (w9.alloc (.cells #[.int .i64 k, .int .i64 n, .slice q9 (len (zed f)) d9] 24)) w') := HSM
              clear HSM bx8
              obtain ⟨x0, x1, x2, _, _, _⟩ := bx9.facts
              have lx9 := bx9.lt
              go_wp2_with fail
              refine HS1.out.mono ?_
              clear HS1 x0 x1 x2
              rintro e w11 ⟨rfl, hb11⟩
              have b11 : Below w.heap.size w w11 := b10.trans (hb11.mono b10.size)
              clear bx9 hbA9 hs9 lx9
              -- the text that came in
              have HP2 : Hid (Calls Tryd.prog 23 #[.string ⟨l.toArray⟩, .slice pn ns.length cn, .slice pd ds.length cd] w11 (ParsePost w11 (ansK (parseK ds ns l)))) := pparse_any w11 l ns ds pn pd cn cd (HTN.out w11 b11) (HTD.out w11 b11) (HVW.out w11 b11) hp (by omega) (by omega) (by omega)
              cases hPK : parseK ds ns l with
              | error y =>
                have hy := parse_err hPK
                rw [hPK] at HP2
                have ty : (y != 0) = true := by simpa using hy
                clear hPK
                go_wp2_with fail
                refine HP2.out.mono ?_
                rintro e a2 ⟨⟨q2, d2, rfl, _⟩, hba2⟩
                have ba2 : Below w.heap.size w a2 := b11.trans (hba2.mono b11.size)
                rw [show ansK (.error y) = ((0, 0, .nil), y) from rfl]
                go_wp2_with fail
                go_ret
                exact ⟨rfl, ba2.alloc ba2.size _⟩
              | ok u =>
                obtain ⟨hu1, hu2, hu3⟩ := parse_right (by omega) hPK
                rw [hPK] at HP2
                clear hPK
                rw [show ansK (.ok u) = (u, 0) from rfl] at HP2
                go_wp2_with fail
                refine HP2.out.mono ?_
                clear HP2
                rintro e a2 ⟨⟨q2, d2, rfl, hsu⟩, hba2⟩
                have ba2 : Below w.heap.size w a2 := b11.trans (hba2.mono b11.size)
                have hbA2 : Below a2.heap.size a2 (a2.alloc (.cells #[.int .i64 u.1, .int .i64 u.2.1, .slice q2 (len u.2.2) d2] 24)) := (Below.refl _ _).alloc (Nat.le_refl _) _
                have bxu := Box.new a2 (.int .i64 u.1) (.int .i64 u.2.1) (.slice q2 (len u.2.2) d2)
                have hsu3 := hsu.sl.below hbA2
                have ba3 : Below w.heap.size w (a2.alloc (.cells #[.int .i64 u.1, .int .i64 u.2.1, .slice q2 (len u.2.2) d2] 24)) := ba2.trans (hbA2.mono ba2.size)
                obtain ⟨X2, hX2⟩ : ∃ X2, ppT ds ns u.1 u.2.1 u.2.2 = X2 := ⟨_, rfl⟩
                have hXl : X2.length ≤ 24 * size u.2.2 + 12 := by rw [← hX2]; exact ppT_len hgn.2.2.2 hgn.2.2.1 hu1
                have HPR : Hid (Calls Tryd.prog 25 #[.agg #[.int .i64 u.1, .int .i64 u.2.1, .slice q2 (len u.2.2) d2], .slice pn ns.length cn, .slice pd ds.length cd] (a2.alloc (.cells #[.int .i64 u.1, .int .i64 u.2.1, .slice q2 (len u.2.2) d2] 24)) fun e w' => e = .returned (.string ⟨X2.toArray⟩) ∧ Below (a2.alloc (.cells #[.int .i64 u.1, .int .i64 u.2.1, .slice q2 (len u.2.2) d2] 24)).heap.size (a2.alloc (.cells #[.int .i64 u.1, .int .i64 u.2.1, .slice q2 (len u.2.2) d2] 24)) w') := by
                  have := pprint_any _ u.1 u.2.1 u.2.2 q2 pn pd d2 cn cd ns ds hsu3 hu1 (HTN.out _ ba3) (HTD.out _ ba3) (HVW.out _ ba3) hp (by omega) (by rw [hX2]; omega)
                  rw [hX2] at this
                  exact this
                go_wp2_with fail
                refine HPR.out.mono ?_
                clear HPR
                rintro e a4 ⟨rfl, hba4⟩
                have bxu4 := bxu.below hba4
                have hsu4 := hsu3.below hba4
                have ba4 : Below w.heap.size w a4 := ba3.trans (hba4.mono ba3.size)
                by_cases h15 : X2.length ≤ 1500
                · have hR : ansK (parseK ds ns X2) = ((u.1, u.2.1, zed u.2.2), 0) := by rw [← hX2]; exact parse_written HGD.out ⟨hgn.1, hgn.2.1⟩ hu1 hu2 (by omega) (by rw [hX2]; exact h15)
                  have HP5 : Hid (Calls Tryd.prog 23 #[.string ⟨X2.toArray⟩, .slice pn ns.length cn, .slice pd ds.length cd] a4 (ParsePost a4 ((u.1, u.2.1, zed u.2.2), 0))) := by
                    have := pparse_any a4 X2 ns ds pn pd cn cd (HTN.out a4 ba4) (HTD.out a4 ba4) (HVW.out a4 ba4) hp (by omega) (by omega) (by omega)
                    rw [hR] at this
                    exact this
                  clear hR bxu hsu3 hbA2 ba2
                  go_wp2_with fail
                  refine HP5.out.mono ?_
                  clear HP5
                  rintro e a5 ⟨⟨q5, d5, rfl, hsv⟩, hba5⟩
                  have bxu5 := bxu4.below hba5
                  have ba5 : Below w.heap.size w a5 := ba4.trans (hba5.mono ba4.size)
                  have hbA5 : Below a5.heap.size a5 (a5.alloc (.cells #[.int .i64 u.1, .int .i64 u.2.1, .slice q5 (len (zed u.2.2)) d5] 24)) := (Below.refl _ _).alloc (Nat.le_refl _) _
                  have bxv := Box.new a5 (.int .i64 u.1) (.int .i64 u.2.1) (.slice q5 (len (zed u.2.2)) d5)
                  have bxu6 := bxu5.below hbA5
                  have ba6 : Below w.heap.size w (a5.alloc (.cells #[.int .i64 u.1, .int .i64 u.2.1, .slice q5 (len (zed u.2.2)) d5] 24)) := ba5.trans (hbA5.mono ba5.size)
                  have hsv6 := hsv.sl.below hbA5
                  have HSM := rsame_any (size u.2.2 + 1) u.2.2 (zed u.2.2) u.1 u.2.1 u.1 u.2.1 q2 q5 d2 d5 (a5.alloc (.cells #[.int .i64 u.1, .int .i64 u.2.1, .slice q5 (len (zed u.2.2)) d5] 24)) (by omega) (by omega) (by rw [size_zed]; omega) ((hsu4.below hba5).below hbA5) hsv6
                  rw [sameT_zed] at HSM
                  have HS2 : Hid (Calls Tryd.prog 14 #[.agg #[.int .i64 u.1, .int .i64 u.2.1, .slice q2 (len u.2.2) d2], .agg #[.int .i64 u.1, .int .i64 u.2.1, .slice q5 (len (zed u.2.2)) d5]] (a5.alloc (.cells #[.int .i64 u.1, .int .i64 u.2.1, .slice q5 (len (zed u.2.2)) d5] 24)) fun e w' => e = .returned (.bool true) ∧ Below (a5.alloc (.cells #[.int .i64 u.1, .int .i64 u.2.1, .slice q5 (len (zed u.2.2)) d5] 24)).heap.size (a5.alloc (.cells #[.int .i64 u.1, .int .i64 u.2.1, .slice q5 (len (zed u.2.2)) d5] 24)) w') := HSM
                  clear HSM
                  obtain ⟨y0, y1, y2, _, _, _⟩ := bxu5.facts
                  have lxu := bxu5.lt
                  go_wp2_with fail
                  refine HS2.out.mono ?_
                  clear HS2
                  rintro e a7 ⟨rfl, hba7⟩
                  have bxv7 := bxv.below hba7
                  have ba7 : Below w.heap.size w a7 := ba6.trans (hba7.mono ba6.size)
                  have HPR2 : Hid (Calls Tryd.prog 25 #[.agg #[.int .i64 u.1, .int .i64 u.2.1, .slice q5 (len (zed u.2.2)) d5], .slice pn ns.length cn, .slice pd ds.length cd] a7 fun e w' => e = .returned (.string ⟨X2.toArray⟩) ∧ Below a7.heap.size a7 w') := by
                    have := pprint_any a7 u.1 u.2.1 (zed u.2.2) q5 pn pd d5 cn cd ns ds (hsv6.below hba7) (by rw [lookT_zed]; exact hu1) (HTN.out _ ba7) (HTD.out _ ba7) (HVW.out _ ba7) hp (by omega) (by rw [ppT_zed, hX2]; omega)
                    rw [ppT_zed, hX2] at this
                    exact this
                  obtain ⟨z0, z1, z2, _, _, _⟩ := bxv7.facts
                  go_wp2_with fail
                  refine HPR2.out.mono ?_
                  rintro e a8 ⟨rfl, hba8⟩
                  go_wp2_with fail
                  go_ret
                  exact ⟨by first | rfl | simp, ba7.trans (hba8.mono ba7.size)⟩
                · have HP5 : Hid (Calls Tryd.prog 23 #[.string ⟨X2.toArray⟩, .slice pn ns.length cn, .slice pd ds.length cd] a4 (ParsePost a4 ((0, 0, .nil), 4))) := by
                    have := pparse_any a4 X2 ns ds pn pd cn cd (HTN.out a4 ba4) (HTD.out a4 ba4) (HVW.out a4 ba4) hp (by omega) (by omega) (by omega)
                    rw [parse_long (by omega)] at this
                    exact this
                  clear bxu hsu3 hbA2 ba2
                  go_wp2_with fail
                  refine HP5.out.mono ?_
                  rintro e a5 ⟨⟨q5, d5, rfl, _⟩, hba5⟩
                  have ba5 : Below w.heap.size w a5 := ba4.trans (hba5.mono ba4.size)
                  go_wp2_with fail
                  go_ret
                  exact ⟨rfl, ba5.alloc ba5.size _⟩
            · exact absurd h15 (by omega)
          · clear bx7
            -- the text that came in
            have HP2 : Hid (Calls Tryd.prog 23 #[.string ⟨l.toArray⟩, .slice pn ns.length cn, .slice pd ds.length cd] w7 (ParsePost w7 (ansK (parseK ds ns l)))) := pparse_any w7 l ns ds pn pd cn cd (HTN.out w7 b07) (HTD.out w7 b07) (HVW.out w7 b07) hp (by omega) (by omega) (by omega)
            cases hPK : parseK ds ns l with
            | error y =>
              have hy := parse_err hPK
              rw [hPK] at HP2
              have ty : (y != 0) = true := by simpa using hy
              clear hPK
              go_wp2_with fail
              refine HP2.out.mono ?_
              rintro e a2 ⟨⟨q2, d2, rfl, _⟩, hba2⟩
              have ba2 : Below w.heap.size w a2 := b07.trans (hba2.mono b07.size)
              rw [show ansK (.error y) = ((0, 0, .nil), y) from rfl]
              go_wp2_with fail
              go_ret
              exact ⟨rfl, ba2.alloc ba2.size _⟩
            | ok u =>
              obtain ⟨hu1, hu2, hu3⟩ := parse_right (by omega) hPK
              rw [hPK] at HP2
              clear hPK
              rw [show ansK (.ok u) = (u, 0) from rfl] at HP2
              go_wp2_with fail
              refine HP2.out.mono ?_
              clear HP2
              rintro e a2 ⟨⟨q2, d2, rfl, hsu⟩, hba2⟩
              have ba2 : Below w.heap.size w a2 := b07.trans (hba2.mono b07.size)
              have hbA2 : Below a2.heap.size a2 (a2.alloc (.cells #[.int .i64 u.1, .int .i64 u.2.1, .slice q2 (len u.2.2) d2] 24)) := (Below.refl _ _).alloc (Nat.le_refl _) _
              have bxu := Box.new a2 (.int .i64 u.1) (.int .i64 u.2.1) (.slice q2 (len u.2.2) d2)
              have hsu3 := hsu.sl.below hbA2
              have ba3 : Below w.heap.size w (a2.alloc (.cells #[.int .i64 u.1, .int .i64 u.2.1, .slice q2 (len u.2.2) d2] 24)) := ba2.trans (hbA2.mono ba2.size)
              obtain ⟨X2, hX2⟩ : ∃ X2, ppT ds ns u.1 u.2.1 u.2.2 = X2 := ⟨_, rfl⟩
              have hXl : X2.length ≤ 24 * size u.2.2 + 12 := by rw [← hX2]; exact ppT_len hgn.2.2.2 hgn.2.2.1 hu1
              have HPR : Hid (Calls Tryd.prog 25 #[.agg #[.int .i64 u.1, .int .i64 u.2.1, .slice q2 (len u.2.2) d2], .slice pn ns.length cn, .slice pd ds.length cd] (a2.alloc (.cells #[.int .i64 u.1, .int .i64 u.2.1, .slice q2 (len u.2.2) d2] 24)) fun e w' => e = .returned (.string ⟨X2.toArray⟩) ∧ Below (a2.alloc (.cells #[.int .i64 u.1, .int .i64 u.2.1, .slice q2 (len u.2.2) d2] 24)).heap.size (a2.alloc (.cells #[.int .i64 u.1, .int .i64 u.2.1, .slice q2 (len u.2.2) d2] 24)) w') := by
                have := pprint_any _ u.1 u.2.1 u.2.2 q2 pn pd d2 cn cd ns ds hsu3 hu1 (HTN.out _ ba3) (HTD.out _ ba3) (HVW.out _ ba3) hp (by omega) (by rw [hX2]; omega)
                rw [hX2] at this
                exact this
              go_wp2_with fail
              refine HPR.out.mono ?_
              clear HPR
              rintro e a4 ⟨rfl, hba4⟩
              have bxu4 := bxu.below hba4
              have hsu4 := hsu3.below hba4
              have ba4 : Below w.heap.size w a4 := ba3.trans (hba4.mono ba3.size)
              by_cases h15 : X2.length ≤ 1500
              · have hR : ansK (parseK ds ns X2) = ((u.1, u.2.1, zed u.2.2), 0) := by rw [← hX2]; exact parse_written HGD.out ⟨hgn.1, hgn.2.1⟩ hu1 hu2 (by omega) (by rw [hX2]; exact h15)
                have HP5 : Hid (Calls Tryd.prog 23 #[.string ⟨X2.toArray⟩, .slice pn ns.length cn, .slice pd ds.length cd] a4 (ParsePost a4 ((u.1, u.2.1, zed u.2.2), 0))) := by
                  have := pparse_any a4 X2 ns ds pn pd cn cd (HTN.out a4 ba4) (HTD.out a4 ba4) (HVW.out a4 ba4) hp (by omega) (by omega) (by omega)
                  rw [hR] at this
                  exact this
                clear hR bxu hsu3 hbA2 ba2
                go_wp2_with fail
                refine HP5.out.mono ?_
                clear HP5
                rintro e a5 ⟨⟨q5, d5, rfl, hsv⟩, hba5⟩
                have bxu5 := bxu4.below hba5
                have ba5 : Below w.heap.size w a5 := ba4.trans (hba5.mono ba4.size)
                have hbA5 : Below a5.heap.size a5 (a5.alloc (.cells #[.int .i64 u.1, .int .i64 u.2.1, .slice q5 (len (zed u.2.2)) d5] 24)) := (Below.refl _ _).alloc (Nat.le_refl _) _
                have bxv := Box.new a5 (.int .i64 u.1) (.int .i64 u.2.1) (.slice q5 (len (zed u.2.2)) d5)
                have bxu6 := bxu5.below hbA5
                have ba6 : Below w.heap.size w (a5.alloc (.cells #[.int .i64 u.1, .int .i64 u.2.1, .slice q5 (len (zed u.2.2)) d5] 24)) := ba5.trans (hbA5.mono ba5.size)
                have hsv6 := hsv.sl.below hbA5
                have HSM := rsame_any (size u.2.2 + 1) u.2.2 (zed u.2.2) u.1 u.2.1 u.1 u.2.1 q2 q5 d2 d5 (a5.alloc (.cells #[.int .i64 u.1, .int .i64 u.2.1, .slice q5 (len (zed u.2.2)) d5] 24)) (by omega) (by omega) (by rw [size_zed]; omega) ((hsu4.below hba5).below hbA5) hsv6
                rw [sameT_zed] at HSM
                have HS2 : Hid (Calls Tryd.prog 14 #[.agg #[.int .i64 u.1, .int .i64 u.2.1, .slice q2 (len u.2.2) d2], .agg #[.int .i64 u.1, .int .i64 u.2.1, .slice q5 (len (zed u.2.2)) d5]] (a5.alloc (.cells #[.int .i64 u.1, .int .i64 u.2.1, .slice q5 (len (zed u.2.2)) d5] 24)) fun e w' => e = .returned (.bool true) ∧ Below (a5.alloc (.cells #[.int .i64 u.1, .int .i64 u.2.1, .slice q5 (len (zed u.2.2)) d5] 24)).heap.size (a5.alloc (.cells #[.int .i64 u.1, .int .i64 u.2.1, .slice q5 (len (zed u.2.2)) d5] 24)) w') := HSM
                clear HSM
                obtain ⟨y0, y1, y2, _, _, _⟩ := bxu5.facts
                have lxu := bxu5.lt
                go_wp2_with fail
                refine HS2.out.mono ?_
                clear HS2
                rintro e a7 ⟨rfl, hba7⟩
                have bxv7 := bxv.below hba7
                have ba7 : Below w.heap.size w a7 := ba6.trans (hba7.mono ba6.size)
                have HPR2 : Hid (Calls Tryd.prog 25 #[.agg #[.int .i64 u.1, .int .i64 u.2.1, .slice q5 (len (zed u.2.2)) d5], .slice pn ns.length cn, .slice pd ds.length cd] a7 fun e w' => e = .returned (.string ⟨X2.toArray⟩) ∧ Below a7.heap.size a7 w') := by
                  have := pprint_any a7 u.1 u.2.1 (zed u.2.2) q5 pn pd d5 cn cd ns ds (hsv6.below hba7) (by rw [lookT_zed]; exact hu1) (HTN.out _ ba7) (HTD.out _ ba7) (HVW.out _ ba7) hp (by omega) (by rw [ppT_zed, hX2]; omega)
                  rw [ppT_zed, hX2] at this
                  exact this
                obtain ⟨z0, z1, z2, _, _, _⟩ := bxv7.facts
                go_wp2_with fail
                refine HPR2.out.mono ?_
                rintro e a8 ⟨rfl, hba8⟩
                go_wp2_with fail
                go_ret
                exact ⟨by first | rfl | simp, ba7.trans (hba8.mono ba7.size)⟩
              · have HP5 : Hid (Calls Tryd.prog 23 #[.string ⟨X2.toArray⟩, .slice pn ns.length cn, .slice pd ds.length cd] a4 (ParsePost a4 ((0, 0, .nil), 4))) := by
                  have := pparse_any a4 X2 ns ds pn pd cn cd (HTN.out a4 ba4) (HTD.out a4 ba4) (HVW.out a4 ba4) hp (by omega) (by omega) (by omega)
                  rw [parse_long (by omega)] at this
                  exact this
                clear bxu hsu3 hbA2 ba2
                go_wp2_with fail
                refine HP5.out.mono ?_
                rintro e a5 ⟨⟨q5, d5, rfl, _⟩, hba5⟩
                have ba5 : Below w.heap.size w a5 := ba4.trans (hba5.mono ba4.size)
                go_wp2_with fail
                go_ret
                exact ⟨rfl, ba5.alloc ba5.size _⟩
end Go.Proofs.YtcgpjihfligdbaaDoor
