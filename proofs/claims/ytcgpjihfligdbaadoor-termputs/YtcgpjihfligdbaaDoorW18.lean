/-
  The document's reader: a term in brackets.
-/
import Derived.Test.YtcgpjihfligdbaaDoorW15
import Derived.Test.YtcgpjihfligdbaaDoorW16
import Derived.Deep.RegionLaw
import Derived.Deep.LoopGhost
namespace Go.Proofs.YtcgpjihfligdbaaDoor
open Go.RowKit Tmx
set_option maxRecDepth 60000

/-- What a call for a term does, n levels at most. -/
def TermAt (ds : List (List UInt8)) (pd : Option Addr) (cd n : Nat) : Prop :=
    ∀ (w : World) (r : Nat) (l : List UInt8) (E : Int) (ns : List (List UInt8)) (pn : Option Addr) (cn : Nat), Rd w r l (.slice pd ds.length cd) E → Strs r w pn ns → Strs r w pd ds → (pn = none → cn = 0) → plainT l → ns.length + 2 * n ≤ 1000 → n ≤ 24 →
    Calls Tryd.prog 53 #[.pointer (some ⟨r, 0, none⟩), .slice pn ns.length cn, .int .i64 (25 - (n : Int))] w fun x w' => (∃ v, x = .returned v ∧ Tm w.heap.size w' v (termS ds n ns l E).1) ∧ Rd w' r (termS ds n ns l E).2.1 (.slice pd ds.length cd) (termS ds n ns l E).2.2 ∧ Kept r w w'

/-- The next sign of a text that is ranged over. -/
theorem next_sign (w : World) (I pos : Nat) (s : ByteArray) (h : w.heap[I]? = some (.stringIter s pos)) (hp : pos < s.size) (ha : (s[pos]).toNat < 128) :
    ∃ wn, (∀ ty, (Instr.next (.pointer (some ⟨I, 0, none⟩)) true ty).run Tryd.prog w = .ok (.tuple #[.bool true, .int .i64 pos, .int .i32 (s[pos]).toNat]) wn) ∧ wn.heap[I]? = some (.stringIter s (pos + 1)) ∧
      (∀ b, b ≠ I → wn.heap[b]? = w.heap[b]?) ∧ wn.heap.size = w.heap.size ∧ wn.os = w.os ∧ wn.tape = w.tape ∧ wn.output = w.output := by
  obtain ⟨hlt, hI⟩ := Array.getElem?_eq_some_iff.1 h
  refine ⟨{ w with heap := w.heap.setIfInBounds I (.stringIter s (pos + 1)) }, fun ty => ?_, ?_, fun b hb => ?_, by simp, rfl, rfl, rfl⟩
  · simp only [Instr.next, getObj, setObj, Sem.run_bind, Sem.run, h, Result.andThen, hp, if_true, decode_ascii s pos hp ha]
    simp [goInt]
  · simp [hlt]
  · simp [Ne.symm hb]
theorem next_none (w : World) (I pos : Nat) (s : ByteArray) (h : w.heap[I]? = some (.stringIter s pos)) (hp : ¬ pos < s.size) (ty : TypeId) :
    (Instr.next (.pointer (some ⟨I, 0, none⟩)) true ty).run Tryd.prog w = .ok (.tuple #[.bool false]) w := by
  simp [Instr.next, getObj, Sem.run, h, hp]

set_option maxHeartbeats 1000000 in
theorem term_bracket (ds : List (List UInt8)) (pd : Option Addr) (cd : Nat) (n : Nat) (H : TermAt ds pd cd n)
    (w : World) (r : Nat) (l : List UInt8) (E : Int) (ns : List (List UInt8)) (pn : Option Addr) (cn : Nat) (h : Rd w r l (.slice pd ds.length cd) E) (hn : Strs r w pn ns) (hd : Strs r w pd ds) (hp : pn = none → cn = 0) (hpl : plainT l) (hnl : ns.length + 2 * (n + 1) ≤ 1000) (hn24 : n + 1 ≤ 24)
    (hE : E = 0) (hb : peekW l = [40]) :
    Calls Tryd.prog 53 #[.pointer (some ⟨r, 0, none⟩), .slice pn ns.length cn, .int .i64 (24 - (n : Int))] w fun x w' => (∃ v, x = .returned v ∧ Tm w.heap.size w' v (termS ds (n + 1) ns l E).1) ∧ Rd w' r (termS ds (n + 1) ns l E).2.1 (.slice pd ds.length cd) (termS ds (n + 1) ns l E).2.2 ∧ Kept r w w' := by
  have hr0 := h.lt
  have hrz : r ≠ w.heap.size := by omega
  have bx0 := Box.new w (.int .i64 0) (.int .i64 0) (.slice none 0 0)
  have k0 := Kept.alloc r w (.cells #[.int .i64 0, .int .i64 0, .slice none 0 0] 24)
  have rd0 : Rd (w.alloc (.cells #[.int .i64 0, .int .i64 0, .slice none 0 0] 24)) r l (.slice pd ds.length cd) E := h.below ((Below.refl _ _).alloc (Nat.le_refl _) _)
  obtain ⟨X, hX⟩ : ∃ X, argsS (termS ds n) (shpL (headK (restW l))) .nil ns (headL (restW l)) (headE (restW l) (wE l E)) = X := ⟨_, rfl⟩
  have HX : Hid (argsS (termS ds n) (shpL (headK (restW l))) .nil ns (headL (restW l)) (headE (restW l) (wE l E)) = X) := hX
  have HT : Hid (termS ds (n + 1) ns l E = ((headK (restW l), 0, X.1), restW X.2.1, tailE X.2.1 X.2.2)) := by
    rw [termS]
    dsimp only
    rw [if_neg (by simpa using hE), if_pos hb, hX]
    rfl
  have tE : (E != 0) = false := by simpa using hE
  have tb : (peekW l == [40]) = true := by simpa using hb
  have td24 : decide ((24 : Int) < 24 - (n : Int)) = false := by simp; omega
  clear hX hE hb
  obtain ⟨r0, r1, r2, g0, g1, g2⟩ := rd0.facts
  go_enter Tryd.func53, Tryd.ntmps53
  go_wp2_with fail
  refine (w_any _ r l _ E rd0 (by have := hpl.2; omega)).mono ?_
  rintro e w1 ⟨rfl, hr1, hk1⟩
  have bx1 := hk1.box (fun e => hrz e.symm) bx0
  have kk1 := k0.trans hk1
  clear r0 r1 r2 g0 g1 g2 bx0 rd0 k0
  have hpl1 := hpl.rest
  generalize restW l = l1 at *
  generalize wE l E = E1 at *
  have rd1 : Rd (w1.alloc (.cells #[.int .i64 5, .int .i64 0, .slice none 0 0] 24)) r l1 (.slice pd ds.length cd) E1 := hr1.below ((Below.refl _ _).alloc (Nat.le_refl _) _)
  have bt1 := Box.new w1 (.int .i64 5) (.int .i64 0) (.slice none 0 0)
  have kt1 := kk1.trans (Kept.alloc r w1 (.cells #[.int .i64 5, .int .i64 0, .slice none 0 0] 24))
  have hzz : w.heap.size < w1.heap.size := bx1.lt
  go_wp2_with fail
  refine (peek_any _ r l1 _ E1 rd1 (by have := hpl1.2; omega)).mono ?_
  rintro e w2 ⟨rfl, rd2, hk2⟩
  have hne1 : w1.heap.size ≠ r := by omega
  have bt2 := hk2.box hne1 bt1
  have bx2 := hk2.box (fun e => hrz e.symm) (bx1.alloc (.cells #[.int .i64 5, .int .i64 0, .slice none 0 0] 24))
  have kt2 := kt1.trans hk2
  clear rd1 bt1 kt1 bx1 hr1 kk1 hk2 hk1
  go_wp2_with fail
  refine (kindOf_any (peekW l1) _).mono ?_
  rintro e w3 ⟨rfl, hb3⟩
  have rd3 := rd2.below hb3
  have bt3 := bt2.below hb3
  have bx3 := bx2.below hb3
  have kt3 := kt2.trans (.of_below hb3 (r := r))
  clear rd2 bt2 bx2 kt2 hb3
  by_cases hK : 0 < Tmx.kindOf (peekW l1)
  · have tK : decide ((0 : Int) < Tmx.kindOf (peekW l1)) = true := by simpa using hK
    by_cases hS : shpL (Tmx.kindOf (peekW l1)) = []
    · have HK : Hid (headK l1 = 5 ∧ headL l1 = skip l1 ∧ headE l1 E1 = E1) := by
        have hno : ¬ (0 < Tmx.kindOf (peekW l1) ∧ shpL (Tmx.kindOf (peekW l1)) ≠ []) := fun h => h.2 hS
        unfold headK headL headE
        rw [if_neg hno, if_neg hno, if_neg hno]
        exact ⟨rfl, rfl, rfl⟩
      obtain ⟨x0, x1, x2, y0, y1, y2⟩ := bt3.facts
      go_wp2_with fail
      refine (shape_any (Tmx.kindOf (peekW l1)) _).mono ?_
      rintro e w4 ⟨rfl, hb4⟩
      rw [show shp (Tmx.kindOf (peekW l1)) = ⟨([] : List UInt8).toArray⟩ by unfold shp; rw [hS]]
      have rd4 := rd3.below hb4
      have bt4 := bt3.below hb4
      have bx4 := bx3.below hb4
      have kt4 := kt3.trans (.of_below hb4 (r := r))
      clear rd3 bt3 bx3 kt3 hb4 x0 x1 x2 y0 y1 y2 hS
      obtain ⟨x0, x1, x2, y0, y1, y2⟩ := bt4.facts
      go_wp2_with fail
      refine (shape_any 5 _).mono ?_
      rintro e w5 ⟨rfl, hb5⟩
      rw [show shp 5 = ⟨(shpL 5).toArray⟩ from rfl]
      have rd5 := rd4.below hb5
      have bt5 := bt4.below hb5
      have bx5 := bx4.below hb5
      have kt5 := kt4.trans (.of_below hb5 (r := r))
      clear rd4 bt4 bx4 kt4 hb5 x0 x1 x2 y0 y1 y2
      go_wp2_with fail
      have hkd : (1 : Int) ≤ 5 ∧ (5 : Int) ≤ 18 := by omega
      have hI : (w5.iter ⟨(shpL 5).toArray⟩ 0).heap[w5.heap.size]? = some (.stringIter ⟨(shpL 5).toArray⟩ 0) := World.iter_heap _ _ _
      have hbI : Below w5.heap.size w5 (w5.iter ⟨(shpL 5).toArray⟩ 0) := (Below.refl _ _).alloc (Nat.le_refl _) _
      have rd6 := rd5.below hbI
      have bt6 := bt5.below hbI
      have bx6 := bx5.below hbI
      have kt6 := kt5.trans (.of_below hbI (r := r))
      have hz6 : (w5.iter ⟨(shpL 5).toArray⟩ 0).heap.size = w5.heap.size + 1 := by simp [World.iter]
      have lt1 : w1.heap.size < w5.heap.size := bt5.lt
      have lt2 : r < w.heap.size := hr0
      have HX2 : Hid (argsS (termS ds n) (shpL 5) .nil ns (skip l1) E1 = X) := by
        have hx := HX.out
        rw [HK.out.1, HK.out.2.1, HK.out.2.2] at hx
        exact hx
      have hpl2 : plainT (skip l1) := by rw [← HK.out.2.1]; exact head_plain hpl1
      have h4 := shpL_len 5
      go_loopg [] (shpL 5).length (fun g wr => ∃ (pos : Nat) (A : F) (l' : List UInt8) (E' : Int) (pv : Option Addr) (cv : Nat), pos ≤ (shpL 5).length ∧ g = (shpL 5).length - pos ∧ len A = pos ∧
          wr.heap[w5.heap.size]? = some (.stringIter ⟨(shpL 5).toArray⟩ pos) ∧ Hid (argsS (termS ds n) ((shpL 5).drop pos) A ns l' E' = X) ∧ plainT l' ∧ Rd wr r l' (.slice pd ds.length cd) E' ∧
          Box wr w.heap.size (.int .i64 0) (.int .i64 0) (.slice none 0 0) ∧ Box wr w1.heap.size (.int .i64 5) (.int .i64 0) (.slice pv (len A) cv) ∧ ArgsIn (w5.heap.size + 1) wr (.slice pv (len A) cv) A ∧ w5.heap.size + 1 ≤ wr.heap.size ∧ Kept r w wr)
      case atStart =>
        exact ⟨0, .nil, (skip l1), E1, none, 0, Nat.zero_le _, by simp, rfl, hI, by show argsS _ (List.drop 0 _) _ _ _ _ = X; simpa using HX2.out, hpl2, rd6, bx6, bt6, ArgsIn.nil _ _, by omega, kt6⟩
      case round =>
        clear rd6 bt6 bx6 kt6 hI hbI hz6 rd5 bt5 bx5 kt5 hpl2 HX2
        obtain ⟨pos, A, l', E', pv, cv, hpos, rfl, hlA, hit, hX', hpl', hrd, hbx, hbt, hAI, hsz, hk⟩ := hrel
        by_cases hlt : pos < (shpL 5).length
        · obtain ⟨c, hc⟩ : ∃ c, (shpL 5)[pos] = c := ⟨_, rfl⟩
          have hcb : (c.toNat : Int) = 48 + bindsAt 5 pos := by rw [← hc]; exact shp_byte 5 hkd pos hlt
          have hbd := bindsAt_bd 5 pos
          obtain ⟨m, hm⟩ : ∃ m : Nat, c.toNat = 48 + m := ⟨c.toNat - 48, by omega⟩
          have hm2 : m ≤ 2 := by omega
          have hdrop : (shpL 5).drop pos = c :: (shpL 5).drop (pos + 1) := by rw [List.drop_eq_getElem_cons hlt, hc]
          have HXa : Hid (argsS (termS ds n) (c :: (shpL 5).drop (pos + 1)) A ns l' E' = X) := by
            have := hX'.out
            rw [hdrop] at this
            exact this
          obtain ⟨wn, hnx, hit2, hblk, hwz, hos, htp, hou⟩ := next_sign wr w5.heap.size pos ⟨(shpL 5).toArray⟩ hit (by simpa [ByteArray.size] using hlt) (by show ((shpL 5)[pos]).toNat < 128; rw [hc]; omega)
          have hcc : ((⟨(shpL 5).toArray⟩ : ByteArray)[pos]'(by simpa [ByteArray.size] using hlt)).toNat = 48 + m := by show ((shpL 5)[pos]).toNat = _; rw [hc]; exact hm
          have hnx2 : ∀ ty, (Instr.next (.pointer (some ⟨w5.heap.size, 0, none⟩)) true ty).run Tryd.prog wr = .ok (.tuple #[.bool true, .int .i64 pos, .int .i32 (48 + (m : Int))]) wn := fun ty => by rw [hnx ty, hcc]; simp
          clear hnx hcc hdrop hX' hcb hbd
          have hkn : Kept r w wn := ⟨hos.trans hk.os, htp.trans hk.tape, hou.trans hk.output, by rw [hwz]; exact hk.size, fun b hb hbr => by rw [hblk b (by omega)]; exact hk.block b hb hbr⟩
          have rdn := hrd.of_block (hblk r (by omega))
          have bxn := hbx.of_block (hblk w.heap.size (by omega))
          have btn := hbt.of_block (hblk w1.heap.size (by omega))
          have hAn : ArgsIn (w5.heap.size + 1) wn (.slice pv (len A) cv) A := hAI.along fun b hb _ => hblk b (by omega)
          clear hos htp hou hit hrd hbx hbt hAI hk hblk
          have hBn : (wn.alloc (.cells #[] 9)).heap[wn.heap.size]? = some (.cells #[] 9 (0, 0)) := heap_alloc_new _ _
          have hbn : Below wn.heap.size wn (wn.alloc (.cells #[] 9)) := (Below.refl _ _).alloc (Nat.le_refl _) _
          obtain ⟨vi, wi, hri, hNi, hgi⟩ := copy_names (wn.alloc (.cells #[] 9)) wn.heap.size r wn.heap.size pn cn ns hBn (Nat.le_refl _) ((hn.kept hkn).kept (.of_below hbn)) hp (by omega) (by simp) 36
          have hki : Kept r wn wi := ⟨hgi.os, hgi.tape, hgi.output, by have := hgi.size; simp at this; omega, fun b hb _ => by rw [hgi.block b (by simp; omega) (by simp; omega)]; exact Below.heap_alloc _ _ _ hb⟩
          have rdi : Rd wi r l' (.slice pd ds.length cd) E' := rdn.of_block (by rw [hgi.block r (by simp; omega) (by simp; omega)]; exact Below.heap_alloc _ _ _ (by omega))
          clear hbn hgi
          have hs1 : wn.heap.size ≤ wr.heap.size ∧ wr.heap.size ≤ wn.heap.size := by omega
          have HLA : Hid (len A = pos) := hlA
          have HC : Hid (c.toNat = 48 + m) := hm
          have HIT : Hid (wn.heap[w5.heap.size]? = some (.stringIter ⟨(shpL 5).toArray⟩ (pos + 1))) := hit2
          have hlA2 : len A ≤ 4 := by omega
          clear hlA hc hm hit2 hBn hwz
          obtain ⟨pi, ci, rfl⟩ := hNi.form
          have HRI : Hid ((Builtin.append_ #[36, 36] 36 #[.slice (some ⟨wn.heap.size, 0, none⟩) 0 0, .slice pn ns.length cn]).run Tryd.prog (wn.alloc (.cells #[] 9)) = .ok (.slice pi ns.length ci) wi) := hri
          clear hri
          go_wp2_with (first | (at_builtin; refine wpList_append_run rfl _ _ 36 rfl _ _ _ rfl rfl HRI.out ?_))
          obtain ⟨Y, hY⟩ : ∃ Y, bindS m ns l' E' = Y := ⟨_, rfl⟩
          have HY : Hid (bindS m ns l' E' = Y) := hY
          clear hY
          obtain ⟨wo, rfl⟩ : ∃ wo : World, wo = wr := ⟨_, rfl⟩
          go_loopg [12, 13, 60] m (fun g vv _ cnt wr2 => ∃ (i : Nat) (ms : List (List UInt8)) (l2 : List UInt8) (E2 : Int) (p2 : Option Addr) (c2 : Nat), i + g = m ∧ cnt = .int .i64 (i : Int) ∧ vv = .slice p2 ms.length c2 ∧ NamesIn wn.heap.size wr2 (.slice p2 ms.length c2) ms ∧ ms.length = ns.length + i ∧
              Hid (bindS g ms l2 E2 = Y) ∧ plainT l2 ∧ Rd wr2 r l2 (.slice pd ds.length cd) E2 ∧ Kept r wn wr2)
          case atStart => exact ⟨0, ns, l', E', pi, ci, by omega, rfl, rfl, hNi, rfl, HY, hpl', rdi, hki⟩
          case round =>
            clear HRI hNi rdi hki hpl'
            obtain ⟨i, ms, l2, E2, p2, c2, him, rfl, rfl, hNm, hml, hbs, hpl2, hrd2, hk2⟩ := hrel
            have Hml : Hid (ms.length = ns.length + i) := hml
            have hml2 : ms.length ≤ 1000 := by omega
            have Him : Hid (i + gk = m) := him
            by_cases hi : i < m
            · obtain ⟨g', rfl⟩ : ∃ g', gk = g' + 1 := ⟨gk - 1, by omega⟩
              clear hml him
              go_wp2_with fail
              refine (w_any wr r l2 _ E2 hrd2 (by have := hpl2.2; omega)).mono ?_
              rintro e w7 ⟨rfl, hrd7, hk7⟩
              have hN7 : NamesIn wn.heap.size w7 (.slice p2 ms.length c2) ms := hNm.along fun b hb hb2 => hk7.block b hb2 (by omega)
              have hk27 := hk2.trans hk7
              clear hNm hk2 hk7 hrd2
              go_wp2_with fail
              refine (name_any (peekW l2) _ (by have := hpl2.peek_len; omega)).mono ?_
              rintro e w8 ⟨rfl, hb8⟩
              have hrd8 := hrd7.below hb8
              have hN8 : NamesIn wn.heap.size w8 (.slice p2 ms.length c2) ms := hN7.along fun b _ hb2 => hb8.block b hb2
              have hk28 := hk27.trans (.of_below hb8 (r := r))
              clear hrd7 hN7 hk27 hb8
              have BS : Hid (bindS g' (ms ++ [peekW l2]) (restW l2) (if nameB (peekW l2) = false then failE (wE l2 E2) 7 else wE l2 E2) = Y) := by
                have h0 := hbs.out
                rw [bindS] at h0
                exact h0
              clear hbs
              cases hnb : nameB (peekW l2)
              · rw [hnb, if_pos rfl] at BS
                go_wp2_with fail
                refine (fail_any w8 r (restW l2) _ (wE l2 E2) 7 hrd8).mono ?_
                rintro e w9 ⟨rfl, hrd9, hk9⟩
                have hN9 : NamesIn wn.heap.size w9 (.slice p2 ms.length c2) ms := hN8.along fun b hb hb2 => hk9.block b hb2 (by omega)
                have hk29 := hk28.trans hk9
                clear hN8 hk28 hk9 hrd8
                have hz9 := hk29.size
                obtain ⟨v3, w3', hr3, hN3, hg3⟩ := append_name (w9.alloc (.cells #[.string ⟨(peekW l2).toArray⟩] 9)) wn.heap.size (.slice p2 ms.length c2) ms (hN9.along fun b _ hb2 => Below.heap_alloc _ _ _ hb2) w9.heap.size 1 (peekW l2) (heap_alloc_new _ _) (by omega) (by simp; omega) 36
                have hbk : ∀ b, b < wn.heap.size → w3'.heap[b]? = w9.heap[b]? := fun b hb => by
                  rw [grown_block (hN9.along fun b _ hb2 => Below.heap_alloc _ _ _ hb2) hg3 hb (by simp; omega)]
                  exact Below.heap_alloc _ _ _ (by omega)
                have hk3 : Kept r wn w3' := ⟨hg3.os.trans hk29.os, hg3.tape.trans hk29.tape, hg3.output.trans hk29.output, by have := hg3.size; simp at this; omega, fun b hb hbr => by rw [hbk b hb]; exact hk29.block b hb hbr⟩
                have rd3 : Rd w3' r (restW l2) (.slice pd ds.length cd) (failE (wE l2 E2) 7) := hrd9.of_block (hbk r (by omega))
                obtain ⟨p3, c3, rfl⟩ := hN3.form
                have HR3 : Hid ((Builtin.append_ #[36, 36] 36 #[.slice p2 ms.length c2, .slice (some ⟨w9.heap.size, 0, none⟩) 1 1]).run Tryd.prog (w9.alloc (.cells #[.string ⟨(peekW l2).toArray⟩] 9)) = .ok (.slice p3 (ms ++ [peekW l2]).length c3) w3') := hr3
                clear hr3 hbk hg3
                go_wp2_with (first | (at_builtin; refine wpList_append_run rfl _ _ 36 rfl _ _ _ rfl rfl HR3.out ?_))
                go_roundg g'
                case measure => omega
                case rel => exact ⟨i + 1, ms ++ [peekW l2], restW l2, (failE (wE l2 E2) 7), p3, c3, by have := Him.out; omega, by go_num, by simp, hN3, by have := Hml.out; simp; omega, BS, hpl2.rest, rd3, hk3⟩
              · rw [hnb, if_neg (by decide)] at BS
                have hz9 := hk28.size
                obtain ⟨v3, w3', hr3, hN3, hg3⟩ := append_name (w8.alloc (.cells #[.string ⟨(peekW l2).toArray⟩] 9)) wn.heap.size (.slice p2 ms.length c2) ms (hN8.along fun b _ hb2 => Below.heap_alloc _ _ _ hb2) w8.heap.size 1 (peekW l2) (heap_alloc_new _ _) (by omega) (by simp; omega) 36
                have hbk : ∀ b, b < wn.heap.size → w3'.heap[b]? = w8.heap[b]? := fun b hb => by
                  rw [grown_block (hN8.along fun b _ hb2 => Below.heap_alloc _ _ _ hb2) hg3 hb (by simp; omega)]
                  exact Below.heap_alloc _ _ _ (by omega)
                have hk3 : Kept r wn w3' := ⟨hg3.os.trans hk28.os, hg3.tape.trans hk28.tape, hg3.output.trans hk28.output, by have := hg3.size; simp at this; omega, fun b hb hbr => by rw [hbk b hb]; exact hk28.block b hb hbr⟩
                have rd3 : Rd w3' r (restW l2) (.slice pd ds.length cd) (wE l2 E2) := hrd8.of_block (hbk r (by omega))
                obtain ⟨p3, c3, rfl⟩ := hN3.form
                have HR3 : Hid ((Builtin.append_ #[36, 36] 36 #[.slice p2 ms.length c2, .slice (some ⟨w8.heap.size, 0, none⟩) 1 1]).run Tryd.prog (w8.alloc (.cells #[.string ⟨(peekW l2).toArray⟩] 9)) = .ok (.slice p3 (ms ++ [peekW l2]).length c3) w3') := hr3
                clear hr3 hbk hg3
                go_wp2_with (first | (at_builtin; refine wpList_append_run rfl _ _ 36 rfl _ _ _ rfl rfl HR3.out ?_))
                go_roundg g'
                case measure => omega
                case rel => exact ⟨i + 1, ms ++ [peekW l2], restW l2, (wE l2 E2), p3, c3, by have := Him.out; omega, by go_num, by simp, hN3, by have := Hml.out; simp; omega, BS, hpl2.rest, rd3, hk3⟩
            · have hg0 : gk = 0 := by omega
              subst hg0
              have hYe : Y = (ms, l2, E2) := by
                have h0 := hbs.out
                rw [bindS] at h0
                exact h0.symm
              have HYe : Hid (Y = (ms, l2, E2)) := hYe
              have him2 : m ≤ i := by omega
              clear hYe hml him hbs
              have bx7 := hk2.box (by omega) bxn
              have bt7 := hk2.box (by omega) btn
              have hA7 : ArgsIn (w5.heap.size + 1) wr (.slice pv (len A) cv) A := hAn.along fun b hb hb2 => hk2.block b hb2 (by omega)
              have hit7 : Hid (wr.heap[w5.heap.size]? = some (.stringIter ⟨(shpL 5).toArray⟩ (pos + 1))) := by
                have : wr.heap[w5.heap.size]? = wn.heap[w5.heap.size]? := hk2.block _ (by omega) (by omega)
                show _ = _
                rw [this]
                exact HIT.out
              have hk7 := hkn.trans hk2
              have hS7 := hNm.strs (r := r) (by omega)
              have hD7 := hd.kept hk7
              have hz7 := hk2.size
              clear hAn bxn btn rdn hkn HIT
              have hcap : p2 = none → c2 = 0 := hNm.cap0
              by_cases h8 : 8 < ms.length
              · have td8 : decide ((8 : Int) < (ms.length : Int)) = true := by simp; omega
                have HE3 : Hid ((if 8 < ms.length then failE E2 5 else E2) = failE E2 5) := by rw [if_pos h8]; rfl
                go_wp2_with fail
                refine (fail_any wr r l2 _ E2 5 hrd2).mono ?_
                rintro e w8 ⟨rfl, hrd8, hk8⟩
                have bx8 := hk8.box (by omega) bx7
                have bt8 := hk8.box (by omega) bt7
                have hA8 : ArgsIn (w5.heap.size + 1) w8 (.slice pv (len A) cv) A := hA7.along fun b hb hb2 => hk8.block b hb2 (by omega)
                have hit8 : Hid (w8.heap[w5.heap.size]? = some (.stringIter ⟨(shpL 5).toArray⟩ (pos + 1))) := by
                  show _ = _
                  rw [hk8.block _ (by omega) (by omega)]
                  exact hit7.out
                have hk78 := hk7.trans hk8
                have hS8 := hS7.kept hk8
                have hD8 := hD7.kept hk8
                have hz8 := hk8.size
                clear hA7 bx7 bt7 hrd2 hit7 hS7 hD7 hk8 hk7
                have HXb : Hid (argsS (termS ds n) ((shpL 5).drop (pos + 1)) (snoc A (termS ds n ms l2 (failE E2 5)).1) ns (termS ds n ms l2 (failE E2 5)).2.1 (termS ds n ms l2 (failE E2 5)).2.2 = X) := by
                  have h0 := HXa.out
                  rw [argsS, HC.out, show 48 + m - 48 = m by omega, HY.out, HYe.out] at h0
                  dsimp only at h0
                  rw [HE3.out] at h0
                  exact h0
                have hpl5 := termS_plain ds n ms l2 (failE E2 5) hpl2
                obtain ⟨X5, hX5⟩ : ∃ X5, termS ds n ms l2 (failE E2 5) = X5 := ⟨_, rfl⟩
                have HX5 : Hid (termS ds n ms l2 (failE E2 5) = X5) := hX5
                rw [hX5] at HXb hpl5
                clear hX5
                have hcall : Calls Tryd.prog 53 #[.pointer (some ⟨r, 0, none⟩), .slice p2 ms.length c2, .int .i64 (25 - (n : Int))] w8.drew fun x w' => (∃ v, x = .returned v ∧ Tm w8.drew.heap.size w' v X5.1) ∧ Rd w' r X5.2.1 (.slice pd ds.length cd) X5.2.2 ∧ Kept r w8.drew w' := by
                  rw [← HX5.out]
                  exact H w8.drew r l2 (failE E2 5) ms p2 c2 (hrd8.of_block rfl) (hS8.kept (Kept.drew r w8)) (hD8.kept (Kept.drew r w8)) hcap hpl2 (by have h1 := Hml.out; have h2 := Him.out; omega) (by omega)
                have HC5 : Hid (Calls Tryd.prog 53 #[.pointer (some ⟨r, 0, none⟩), .slice p2 ms.length c2, .int .i64 (25 - (n : Int))] w8.drew fun x w' => (∃ v, x = .returned v ∧ Tm w8.drew.heap.size w' v X5.1) ∧ Rd w' r X5.2.1 (.slice pd ds.length cd) X5.2.2 ∧ Kept r w8.drew w') := hcall
                clear hcall
                obtain ⟨z0, z1, z2, y0, y1, y2⟩ := bt8.facts
                have lb8 := bt8.lt
                have hown8 : ∀ k, (Value.slice pv (len A) cv).ownBlock = some k → w5.heap.size + 1 ≤ k ∧ k < w8.heap.size := by
                  obtain ⟨xs, ho, _⟩ := hA8
                  exact ho.lt
                go_wp2_with fail
                go_region_law (first
                    | (refine step_append_run rfl _ _ 22 rfl _ _ _ rfl rfl hr6 ?_)
                    | (go_simp; go_at_call 53; rw [wrapI (24 - (n : Int) + 1) (by omega) (by omega), show (24 : Int) - (n : Int) + 1 = 25 - (n : Int) by omega]; refine HC5.out.mono ?_; rintro e w10 ⟨⟨v, rfl, p5, c5, rfl, hsl5⟩, hrd10, hk10⟩; obtain ⟨bt10, g6, cap6, w11, hr6, hA6, hbk6, hkp6, hz6⟩ := step26 (c5 := c5) (x := X5.1) lb8 (by omega) bt8 hA8 hown8 hsl5 hk10 hlA2 (by omega); obtain ⟨q0, q1, q2, t0, t1, t2⟩ := bt10.facts; have lb10 := bt10.lt; have bt11 := bt10.of_block (hbk6 _ (by omega)); obtain ⟨s0, s1, s2, v0, v1, v2⟩ := bt11.facts))
                all_goals
                  have hlsn : len (snoc A X5.1) = len A + 1 := len_snoc A X5.1
                  have rd12 : Rd (w11.setCell ⟨w1.heap.size, 2, none⟩ (.slice (some ⟨g6, 0, none⟩) (len A + 1) cap6)) r X5.2.1 (.slice pd ds.length cd) X5.2.2 := hrd10.of_block (by rw [Below.heap_setCell _ _ _ _ (by show r ≠ w1.heap.size; omega)]; exact hbk6 r (by omega))
                  have bx12 : Box (w11.setCell ⟨w1.heap.size, 2, none⟩ (.slice (some ⟨g6, 0, none⟩) (len A + 1) cap6)) w.heap.size (.int .i64 0) (.int .i64 0) (.slice none 0 0) := ((hk10.box (w := w8.drew) (by omega) (bx8.of_block rfl)).of_block (hbk6 _ (by omega))).setOther (by show w.heap.size ≠ w1.heap.size; omega) _
                  have bt12 : Box (w11.setCell ⟨w1.heap.size, 2, none⟩ (.slice (some ⟨g6, 0, none⟩) (len A + 1) cap6)) w1.heap.size (.int .i64 5) (.int .i64 0) (.slice (some ⟨g6, 0, none⟩) (len (snoc A X5.1)) cap6) := by rw [hlsn]; exact bt11.set2 _
                  have hA12 : ArgsIn (w5.heap.size + 1) (w11.setCell ⟨w1.heap.size, 2, none⟩ (.slice (some ⟨g6, 0, none⟩) (len A + 1) cap6)) (.slice (some ⟨g6, 0, none⟩) (len (snoc A X5.1)) cap6) (snoc A X5.1) := by
                    rw [hlsn]
                    exact hA6.along fun b hb _ => Below.heap_setCell _ _ _ _ (by show b ≠ w1.heap.size; omega)
                  have hit12 : Hid ((w11.setCell ⟨w1.heap.size, 2, none⟩ (.slice (some ⟨g6, 0, none⟩) (len A + 1) cap6)).heap[w5.heap.size]? = some (.stringIter ⟨(shpL 5).toArray⟩ (pos + 1))) := by
                    show _ = _
                    rw [Below.heap_setCell _ _ _ _ (by show w5.heap.size ≠ w1.heap.size; omega), hbk6 _ (by omega), hk10.block _ (by show w5.heap.size < w8.heap.size; omega) (by omega)]
                    exact hit8.out
                  have hk12 : Kept r w (w11.setCell ⟨w1.heap.size, 2, none⟩ (.slice (some ⟨g6, 0, none⟩) (len A + 1) cap6)) := (hkp6 w hk78 (by omega)).setNew (by show w.heap.size ≤ w1.heap.size; omega) _
                  have hz12 : w5.heap.size + 1 ≤ (w11.setCell ⟨w1.heap.size, 2, none⟩ (.slice (some ⟨g6, 0, none⟩) (len A + 1) cap6)).heap.size := by simpa [World.setCell] using hz6
                  generalize w11.setCell ⟨w1.heap.size, 2, none⟩ (.slice (some ⟨g6, 0, none⟩) (len A + 1) cap6) = w12 at *
                  clear hlsn s0 s1 s2 v0 v1 v2 q0 q1 q2 t0 t1 t2 hr6 hA6 hbk6 hkp6 bt10 bt11 hsl5 hrd10 hk10
                  go_wp2_with fail
                  go_roundg ((shpL 5).length - (pos + 1))
                  case measure => omega
                  case rel => exact ⟨pos + 1, snoc A X5.1, X5.2.1, X5.2.2, some ⟨g6, 0, none⟩, cap6, hlt, rfl, by rw [len_snoc, HLA.out], hit12.out, HXb, hpl5, rd12, bx12, bt12, hA12, hz12, hk12⟩
              · have td8 : decide ((8 : Int) < (ms.length : Int)) = false := by simp; omega
                have HE3 : Hid ((if 8 < ms.length then failE E2 5 else E2) = E2) := by rw [if_neg h8]; rfl
                have bx8 := bx7
                have bt8 := bt7
                have hA8 := hA7
                have hit8 := hit7
                have hk78 := hk7
                have hS8 := hS7
                have hD8 := hD7
                have hrd8 := hrd2
                clear hA7 bx7 bt7 hrd2 hit7 hS7 hD7 hk7
                have HXb : Hid (argsS (termS ds n) ((shpL 5).drop (pos + 1)) (snoc A (termS ds n ms l2 E2).1) ns (termS ds n ms l2 E2).2.1 (termS ds n ms l2 E2).2.2 = X) := by
                  have h0 := HXa.out
                  rw [argsS, HC.out, show 48 + m - 48 = m by omega, HY.out, HYe.out] at h0
                  dsimp only at h0
                  rw [HE3.out] at h0
                  exact h0
                have hpl5 := termS_plain ds n ms l2 E2 hpl2
                obtain ⟨X5, hX5⟩ : ∃ X5, termS ds n ms l2 E2 = X5 := ⟨_, rfl⟩
                have HX5 : Hid (termS ds n ms l2 E2 = X5) := hX5
                rw [hX5] at HXb hpl5
                clear hX5
                have hcall : Calls Tryd.prog 53 #[.pointer (some ⟨r, 0, none⟩), .slice p2 ms.length c2, .int .i64 (25 - (n : Int))] wr.drew fun x w' => (∃ v, x = .returned v ∧ Tm wr.drew.heap.size w' v X5.1) ∧ Rd w' r X5.2.1 (.slice pd ds.length cd) X5.2.2 ∧ Kept r wr.drew w' := by
                  rw [← HX5.out]
                  exact H wr.drew r l2 E2 ms p2 c2 (hrd8.of_block rfl) (hS8.kept (Kept.drew r wr)) (hD8.kept (Kept.drew r wr)) hcap hpl2 (by have h1 := Hml.out; have h2 := Him.out; omega) (by omega)
                have HC5 : Hid (Calls Tryd.prog 53 #[.pointer (some ⟨r, 0, none⟩), .slice p2 ms.length c2, .int .i64 (25 - (n : Int))] wr.drew fun x w' => (∃ v, x = .returned v ∧ Tm wr.drew.heap.size w' v X5.1) ∧ Rd w' r X5.2.1 (.slice pd ds.length cd) X5.2.2 ∧ Kept r wr.drew w') := hcall
                clear hcall
                obtain ⟨z0, z1, z2, y0, y1, y2⟩ := bt8.facts
                have lb8 := bt8.lt
                have hown8 : ∀ k, (Value.slice pv (len A) cv).ownBlock = some k → w5.heap.size + 1 ≤ k ∧ k < wr.heap.size := by
                  obtain ⟨xs, ho, _⟩ := hA8
                  exact ho.lt
                go_wp2_with fail
                go_region_law (first
                    | (refine step_append_run rfl _ _ 22 rfl _ _ _ rfl rfl hr6 ?_)
                    | (go_simp; go_at_call 53; rw [wrapI (24 - (n : Int) + 1) (by omega) (by omega), show (24 : Int) - (n : Int) + 1 = 25 - (n : Int) by omega]; refine HC5.out.mono ?_; rintro e w10 ⟨⟨v, rfl, p5, c5, rfl, hsl5⟩, hrd10, hk10⟩; obtain ⟨bt10, g6, cap6, w11, hr6, hA6, hbk6, hkp6, hz6⟩ := step26 (c5 := c5) (x := X5.1) lb8 (by omega) bt8 hA8 hown8 hsl5 hk10 hlA2 (by omega); obtain ⟨q0, q1, q2, t0, t1, t2⟩ := bt10.facts; have lb10 := bt10.lt; have bt11 := bt10.of_block (hbk6 _ (by omega)); obtain ⟨s0, s1, s2, v0, v1, v2⟩ := bt11.facts))
                all_goals
                  have hlsn : len (snoc A X5.1) = len A + 1 := len_snoc A X5.1
                  have rd12 : Rd (w11.setCell ⟨w1.heap.size, 2, none⟩ (.slice (some ⟨g6, 0, none⟩) (len A + 1) cap6)) r X5.2.1 (.slice pd ds.length cd) X5.2.2 := hrd10.of_block (by rw [Below.heap_setCell _ _ _ _ (by show r ≠ w1.heap.size; omega)]; exact hbk6 r (by omega))
                  have bx12 : Box (w11.setCell ⟨w1.heap.size, 2, none⟩ (.slice (some ⟨g6, 0, none⟩) (len A + 1) cap6)) w.heap.size (.int .i64 0) (.int .i64 0) (.slice none 0 0) := ((hk10.box (w := wr.drew) (by omega) (bx8.of_block rfl)).of_block (hbk6 _ (by omega))).setOther (by show w.heap.size ≠ w1.heap.size; omega) _
                  have bt12 : Box (w11.setCell ⟨w1.heap.size, 2, none⟩ (.slice (some ⟨g6, 0, none⟩) (len A + 1) cap6)) w1.heap.size (.int .i64 5) (.int .i64 0) (.slice (some ⟨g6, 0, none⟩) (len (snoc A X5.1)) cap6) := by rw [hlsn]; exact bt11.set2 _
                  have hA12 : ArgsIn (w5.heap.size + 1) (w11.setCell ⟨w1.heap.size, 2, none⟩ (.slice (some ⟨g6, 0, none⟩) (len A + 1) cap6)) (.slice (some ⟨g6, 0, none⟩) (len (snoc A X5.1)) cap6) (snoc A X5.1) := by
                    rw [hlsn]
                    exact hA6.along fun b hb _ => Below.heap_setCell _ _ _ _ (by show b ≠ w1.heap.size; omega)
                  have hit12 : Hid ((w11.setCell ⟨w1.heap.size, 2, none⟩ (.slice (some ⟨g6, 0, none⟩) (len A + 1) cap6)).heap[w5.heap.size]? = some (.stringIter ⟨(shpL 5).toArray⟩ (pos + 1))) := by
                    show _ = _
                    rw [Below.heap_setCell _ _ _ _ (by show w5.heap.size ≠ w1.heap.size; omega), hbk6 _ (by omega), hk10.block _ (by show w5.heap.size < wr.heap.size; omega) (by omega)]
                    exact hit8.out
                  have hk12 : Kept r w (w11.setCell ⟨w1.heap.size, 2, none⟩ (.slice (some ⟨g6, 0, none⟩) (len A + 1) cap6)) := (hkp6 w hk78 (by omega)).setNew (by show w.heap.size ≤ w1.heap.size; omega) _
                  have hz12 : w5.heap.size + 1 ≤ (w11.setCell ⟨w1.heap.size, 2, none⟩ (.slice (some ⟨g6, 0, none⟩) (len A + 1) cap6)).heap.size := by simpa [World.setCell] using hz6
                  generalize w11.setCell ⟨w1.heap.size, 2, none⟩ (.slice (some ⟨g6, 0, none⟩) (len A + 1) cap6) = w12 at *
                  clear hlsn s0 s1 s2 v0 v1 v2 q0 q1 q2 t0 t1 t2 hr6 hA6 hbk6 hkp6 bt10 bt11 hsl5 hrd10 hk10
                  go_wp2_with fail
                  go_roundg ((shpL 5).length - (pos + 1))
                  case measure => omega
                  case rel => exact ⟨pos + 1, snoc A X5.1, X5.2.1, X5.2.2, some ⟨g6, 0, none⟩, cap6, hlt, rfl, by rw [len_snoc, HLA.out], hit12.out, HXb, hpl5, rd12, bx12, bt12, hA12, hz12, hk12⟩
        · obtain rfl : pos = (shpL 5).length := by omega
          have hXe : X = (A, l', E') := by
            have h0 := hX'.out
            rw [List.drop_length, argsS] at h0
            exact h0.symm
          have HXe : Hid (X = (A, l', E')) := hXe
          clear hXe hX' HX
          have hnx := next_none wr w5.heap.size (shpL 5).length ⟨(shpL 5).toArray⟩ hit (by simp [ByteArray.size])
          have HLA : Hid (len A = (shpL 5).length) := hlA
          clear hlA hit
          go_wp2_with fail
          clear hnx
          refine (w_any wr r l' _ E' hrd (by have := hpl'.2; omega)).mono ?_
          rintro e w7 ⟨rfl, hrd7, hk7⟩
          have bx7 := hk7.box (by omega) hbx
          have bt7 := hk7.box (by omega) hbt
          have hA7 : ArgsIn (w5.heap.size + 1) w7 (.slice pv (len A) cv) A := hAI.along fun b hb hb2 => hk7.block b hb2 (by omega)
          have hk77 := hk.trans hk7
          clear hbx hbt hAI hrd hk hk7
          have HT2 : Hid (termS ds (n + 1) ns l E = ((5, 0, A), restW l', tailE l' E')) := by
            rw [HT.out, HK.out.1, HXe.out]
            rfl
          by_cases h41 : peekW l' = [41]
          · have t41 : (peekW l' == [41]) = true := by simpa using h41
            have HE4 : Hid (tailE l' E' = wE l' E') := by unfold tailE; rw [if_pos h41]; rfl
            clear h41
            obtain ⟨x0, x1, x2, y0, y1, y2⟩ := bx7.facts
            obtain ⟨z0, z1, z2, _, _, _⟩ := bt7.facts
            go_wp2_with fail
            obtain ⟨d0, d1, d2, _, _, _⟩ := (bx7.set (.int .i64 5) (.int .i64 0) (.slice pv (len A) cv)).facts
            refine bodyPost_ret (v := .agg #[.int .i64 5, .int .i64 0, .slice pv (len A) cv]) (by simp [results, Tryd.results53, go_sem, d0, d1, d2]) rfl ⟨⟨_, rfl, pv, cv, by rw [HT2.out], ?_⟩, ?_, ?_⟩
            · rw [HT2.out]
              exact (((hA7.slF.setCell (by show w.heap.size < _; omega) _).setCell (by show w.heap.size < _; omega) _).setCell (by show w.heap.size < _; omega) _).mono (by omega)
            · rw [HT2.out, HE4.out]
              exact hrd7.of_block (by rw [Below.heap_setCell _ _ _ _ hrz, Below.heap_setCell _ _ _ _ hrz, Below.heap_setCell _ _ _ _ hrz])
            · exact ((hk77.setNew (Nat.le_refl _) _).setNew (Nat.le_refl _) _).setNew (Nat.le_refl _) _
          · have t41 : (peekW l' == [41]) = false := by simpa using h41
            have HE4 : Hid (tailE l' E' = failE (wE l' E') 2) := by unfold tailE; rw [if_neg h41]; rfl
            clear h41
            go_wp2_with fail
            refine (fail_any w7 r (restW l') _ (wE l' E') 2 hrd7).mono ?_
            rintro e w8 ⟨rfl, hrd8, hk8⟩
            have bx8 := hk8.box (by omega) bx7
            have bt8 := hk8.box (by omega) bt7
            have hA8 : ArgsIn (w5.heap.size + 1) w8 (.slice pv (len A) cv) A := hA7.along fun b hb hb2 => hk8.block b hb2 (by omega)
            have hk78 := hk77.trans hk8
            clear bx7 bt7 hA7 hrd7 hk77
            obtain ⟨x0, x1, x2, y0, y1, y2⟩ := bx8.facts
            obtain ⟨z0, z1, z2, _, _, _⟩ := bt8.facts
            go_wp2_with fail
            obtain ⟨d0, d1, d2, _, _, _⟩ := (bx8.set (.int .i64 5) (.int .i64 0) (.slice pv (len A) cv)).facts
            refine bodyPost_ret (v := .agg #[.int .i64 5, .int .i64 0, .slice pv (len A) cv]) (by simp [results, Tryd.results53, go_sem, d0, d1, d2]) rfl ⟨⟨_, rfl, pv, cv, by rw [HT2.out], ?_⟩, ?_, ?_⟩
            · rw [HT2.out]
              exact (((hA8.slF.setCell (by show w.heap.size < _; omega) _).setCell (by show w.heap.size < _; omega) _).setCell (by show w.heap.size < _; omega) _).mono (by omega)
            · rw [HT2.out, HE4.out]
              exact hrd8.of_block (by rw [Below.heap_setCell _ _ _ _ hrz, Below.heap_setCell _ _ _ _ hrz, Below.heap_setCell _ _ _ _ hrz])
            · exact ((hk78.setNew (Nat.le_refl _) _).setNew (Nat.le_refl _) _).setNew (Nat.le_refl _) _
    · have HK : Hid (headK l1 = Tmx.kindOf (peekW l1) ∧ headL l1 = restW (skip l1) ∧ headE l1 E1 = wE (skip l1) E1) := by
        have hyes : 0 < Tmx.kindOf (peekW l1) ∧ shpL (Tmx.kindOf (peekW l1)) ≠ [] := ⟨hK, hS⟩
        unfold headK headL headE
        rw [if_pos hyes, if_pos hyes, if_pos hyes]
        exact ⟨rfl, rfl, rfl⟩
      have tS : (shpL (Tmx.kindOf (peekW l1)) == []) = false := by simpa using hS
      obtain ⟨x0, x1, x2, y0, y1, y2⟩ := bt3.facts
      go_wp2_with fail
      refine (shape_any (Tmx.kindOf (peekW l1)) _).mono ?_
      rintro e w4 ⟨rfl, hb4⟩
      rw [show shp (Tmx.kindOf (peekW l1)) = ⟨(shpL (Tmx.kindOf (peekW l1))).toArray⟩ from rfl]
      have rd4 := rd3.below hb4
      have bt4 := bt3.below hb4
      have bx4 := bx3.below hb4
      have kt4 := kt3.trans (.of_below hb4 (r := r))
      clear rd3 bt3 bx3 kt3 hb4 x0 x1 x2 y0 y1 y2 hS
      obtain ⟨x0, x1, x2, y0, y1, y2⟩ := bt4.facts
      go_wp2_with fail
      have bt4' := bt4.set0 (.int .i64 (Tmx.kindOf (peekW l1)))
      have rd4' : Rd (w4.setCell ⟨w1.heap.size, 0, none⟩ (.int .i64 (Tmx.kindOf (peekW l1)))) r (skip l1) (.slice pd ds.length cd) E1 := rd4.of_block (Below.heap_setCell _ _ _ _ (by show r ≠ w1.heap.size; omega))
      have bx4' := bx4.setOther (x := ⟨w1.heap.size, 0, none⟩) (by show w.heap.size ≠ w1.heap.size; omega) (.int .i64 (Tmx.kindOf (peekW l1)))
      have kt4' := kt4.setNew (x := ⟨w1.heap.size, 0, none⟩) (by show w.heap.size ≤ w1.heap.size; omega) (.int .i64 (Tmx.kindOf (peekW l1)))
      clear rd4 bt4 bx4 kt4 x0 x1 x2 y0 y1 y2
      refine (w_any _ r (skip l1) _ E1 rd4' (by have := hpl1.skip.2; omega)).mono ?_
      rintro e w6 ⟨rfl, rd6, hk6⟩
      have bt6 := hk6.box (by omega) bt4'
      have bx6 := hk6.box (by omega) bx4'
      have kt6 := kt4'.trans hk6
      clear rd4' bt4' bx4' kt4' hk6
      obtain ⟨x0, x1, x2, y0, y1, y2⟩ := bt6.facts
      go_wp2_with fail
      refine (shape_any (Tmx.kindOf (peekW l1)) _).mono ?_
      rintro e w5 ⟨rfl, hb5⟩
      rw [show shp (Tmx.kindOf (peekW l1)) = ⟨(shpL (Tmx.kindOf (peekW l1))).toArray⟩ from rfl]
      have rd5 := rd6.below hb5
      have bt5 := bt6.below hb5
      have bx5 := bx6.below hb5
      have kt5 := kt6.trans (.of_below hb5 (r := r))
      clear rd6 bt6 bx6 kt6 hb5 x0 x1 x2 y0 y1 y2
      go_wp2_with fail
      have hkd : (1 : Int) ≤ Tmx.kindOf (peekW l1) ∧ Tmx.kindOf (peekW l1) ≤ 18 := ⟨by omega, by have : Tmx.kindOf (peekW l1) ≤ 17 := kf_le 15 (peekW l1); omega⟩
      have hI : (w5.iter ⟨(shpL (Tmx.kindOf (peekW l1))).toArray⟩ 0).heap[w5.heap.size]? = some (.stringIter ⟨(shpL (Tmx.kindOf (peekW l1))).toArray⟩ 0) := World.iter_heap _ _ _
      have hbI : Below w5.heap.size w5 (w5.iter ⟨(shpL (Tmx.kindOf (peekW l1))).toArray⟩ 0) := (Below.refl _ _).alloc (Nat.le_refl _) _
      have rd6 := rd5.below hbI
      have bt6 := bt5.below hbI
      have bx6 := bx5.below hbI
      have kt6 := kt5.trans (.of_below hbI (r := r))
      have hz6 : (w5.iter ⟨(shpL (Tmx.kindOf (peekW l1))).toArray⟩ 0).heap.size = w5.heap.size + 1 := by simp [World.iter]
      have lt1 : w1.heap.size < w5.heap.size := bt5.lt
      have lt2 : r < w.heap.size := hr0
      have HX2 : Hid (argsS (termS ds n) (shpL (Tmx.kindOf (peekW l1))) .nil ns (restW (skip l1)) (wE (skip l1) E1) = X) := by
        have hx := HX.out
        rw [HK.out.1, HK.out.2.1, HK.out.2.2] at hx
        exact hx
      have hpl2 : plainT (restW (skip l1)) := by rw [← HK.out.2.1]; exact head_plain hpl1
      have h4 := shpL_len (Tmx.kindOf (peekW l1))
      go_loopg [] (shpL (Tmx.kindOf (peekW l1))).length (fun g wr => ∃ (pos : Nat) (A : F) (l' : List UInt8) (E' : Int) (pv : Option Addr) (cv : Nat), pos ≤ (shpL (Tmx.kindOf (peekW l1))).length ∧ g = (shpL (Tmx.kindOf (peekW l1))).length - pos ∧ len A = pos ∧
          wr.heap[w5.heap.size]? = some (.stringIter ⟨(shpL (Tmx.kindOf (peekW l1))).toArray⟩ pos) ∧ Hid (argsS (termS ds n) ((shpL (Tmx.kindOf (peekW l1))).drop pos) A ns l' E' = X) ∧ plainT l' ∧ Rd wr r l' (.slice pd ds.length cd) E' ∧
          Box wr w.heap.size (.int .i64 0) (.int .i64 0) (.slice none 0 0) ∧ Box wr w1.heap.size (.int .i64 (Tmx.kindOf (peekW l1))) (.int .i64 0) (.slice pv (len A) cv) ∧ ArgsIn (w5.heap.size + 1) wr (.slice pv (len A) cv) A ∧ w5.heap.size + 1 ≤ wr.heap.size ∧ Kept r w wr)
      case atStart =>
        exact ⟨0, .nil, (restW (skip l1)), (wE (skip l1) E1), none, 0, Nat.zero_le _, by simp, rfl, hI, by show argsS _ (List.drop 0 _) _ _ _ _ = X; simpa using HX2.out, hpl2, rd6, bx6, bt6, ArgsIn.nil _ _, by omega, kt6⟩
      case round =>
        clear rd6 bt6 bx6 kt6 hI hbI hz6 rd5 bt5 bx5 kt5 hpl2 HX2
        obtain ⟨pos, A, l', E', pv, cv, hpos, rfl, hlA, hit, hX', hpl', hrd, hbx, hbt, hAI, hsz, hk⟩ := hrel
        by_cases hlt : pos < (shpL (Tmx.kindOf (peekW l1))).length
        · obtain ⟨c, hc⟩ : ∃ c, (shpL (Tmx.kindOf (peekW l1)))[pos] = c := ⟨_, rfl⟩
          have hcb : (c.toNat : Int) = 48 + bindsAt (Tmx.kindOf (peekW l1)) pos := by rw [← hc]; exact shp_byte (Tmx.kindOf (peekW l1)) hkd pos hlt
          have hbd := bindsAt_bd (Tmx.kindOf (peekW l1)) pos
          obtain ⟨m, hm⟩ : ∃ m : Nat, c.toNat = 48 + m := ⟨c.toNat - 48, by omega⟩
          have hm2 : m ≤ 2 := by omega
          have hdrop : (shpL (Tmx.kindOf (peekW l1))).drop pos = c :: (shpL (Tmx.kindOf (peekW l1))).drop (pos + 1) := by rw [List.drop_eq_getElem_cons hlt, hc]
          have HXa : Hid (argsS (termS ds n) (c :: (shpL (Tmx.kindOf (peekW l1))).drop (pos + 1)) A ns l' E' = X) := by
            have := hX'.out
            rw [hdrop] at this
            exact this
          obtain ⟨wn, hnx, hit2, hblk, hwz, hos, htp, hou⟩ := next_sign wr w5.heap.size pos ⟨(shpL (Tmx.kindOf (peekW l1))).toArray⟩ hit (by simpa [ByteArray.size] using hlt) (by show ((shpL (Tmx.kindOf (peekW l1)))[pos]).toNat < 128; rw [hc]; omega)
          have hcc : ((⟨(shpL (Tmx.kindOf (peekW l1))).toArray⟩ : ByteArray)[pos]'(by simpa [ByteArray.size] using hlt)).toNat = 48 + m := by show ((shpL (Tmx.kindOf (peekW l1)))[pos]).toNat = _; rw [hc]; exact hm
          have hnx2 : ∀ ty, (Instr.next (.pointer (some ⟨w5.heap.size, 0, none⟩)) true ty).run Tryd.prog wr = .ok (.tuple #[.bool true, .int .i64 pos, .int .i32 (48 + (m : Int))]) wn := fun ty => by rw [hnx ty, hcc]; simp
          clear hnx hcc hdrop hX' hcb hbd
          have hkn : Kept r w wn := ⟨hos.trans hk.os, htp.trans hk.tape, hou.trans hk.output, by rw [hwz]; exact hk.size, fun b hb hbr => by rw [hblk b (by omega)]; exact hk.block b hb hbr⟩
          have rdn := hrd.of_block (hblk r (by omega))
          have bxn := hbx.of_block (hblk w.heap.size (by omega))
          have btn := hbt.of_block (hblk w1.heap.size (by omega))
          have hAn : ArgsIn (w5.heap.size + 1) wn (.slice pv (len A) cv) A := hAI.along fun b hb _ => hblk b (by omega)
          clear hos htp hou hit hrd hbx hbt hAI hk hblk
          have hBn : (wn.alloc (.cells #[] 9)).heap[wn.heap.size]? = some (.cells #[] 9 (0, 0)) := heap_alloc_new _ _
          have hbn : Below wn.heap.size wn (wn.alloc (.cells #[] 9)) := (Below.refl _ _).alloc (Nat.le_refl _) _
          obtain ⟨vi, wi, hri, hNi, hgi⟩ := copy_names (wn.alloc (.cells #[] 9)) wn.heap.size r wn.heap.size pn cn ns hBn (Nat.le_refl _) ((hn.kept hkn).kept (.of_below hbn)) hp (by omega) (by simp) 36
          have hki : Kept r wn wi := ⟨hgi.os, hgi.tape, hgi.output, by have := hgi.size; simp at this; omega, fun b hb _ => by rw [hgi.block b (by simp; omega) (by simp; omega)]; exact Below.heap_alloc _ _ _ hb⟩
          have rdi : Rd wi r l' (.slice pd ds.length cd) E' := rdn.of_block (by rw [hgi.block r (by simp; omega) (by simp; omega)]; exact Below.heap_alloc _ _ _ (by omega))
          clear hbn hgi
          have hs1 : wn.heap.size ≤ wr.heap.size ∧ wr.heap.size ≤ wn.heap.size := by omega
          have HLA : Hid (len A = pos) := hlA
          have HC : Hid (c.toNat = 48 + m) := hm
          have HIT : Hid (wn.heap[w5.heap.size]? = some (.stringIter ⟨(shpL (Tmx.kindOf (peekW l1))).toArray⟩ (pos + 1))) := hit2
          have hlA2 : len A ≤ 4 := by omega
          clear hlA hc hm hit2 hBn hwz
          obtain ⟨pi, ci, rfl⟩ := hNi.form
          have HRI : Hid ((Builtin.append_ #[36, 36] 36 #[.slice (some ⟨wn.heap.size, 0, none⟩) 0 0, .slice pn ns.length cn]).run Tryd.prog (wn.alloc (.cells #[] 9)) = .ok (.slice pi ns.length ci) wi) := hri
          clear hri
          go_wp2_with (first | (at_builtin; refine wpList_append_run rfl _ _ 36 rfl _ _ _ rfl rfl HRI.out ?_))
          obtain ⟨Y, hY⟩ : ∃ Y, bindS m ns l' E' = Y := ⟨_, rfl⟩
          have HY : Hid (bindS m ns l' E' = Y) := hY
          clear hY
          obtain ⟨wo, rfl⟩ : ∃ wo : World, wo = wr := ⟨_, rfl⟩
          go_loopg [12, 13, 60] m (fun g vv _ cnt wr2 => ∃ (i : Nat) (ms : List (List UInt8)) (l2 : List UInt8) (E2 : Int) (p2 : Option Addr) (c2 : Nat), i + g = m ∧ cnt = .int .i64 (i : Int) ∧ vv = .slice p2 ms.length c2 ∧ NamesIn wn.heap.size wr2 (.slice p2 ms.length c2) ms ∧ ms.length = ns.length + i ∧
              Hid (bindS g ms l2 E2 = Y) ∧ plainT l2 ∧ Rd wr2 r l2 (.slice pd ds.length cd) E2 ∧ Kept r wn wr2)
          case atStart => exact ⟨0, ns, l', E', pi, ci, by omega, rfl, rfl, hNi, rfl, HY, hpl', rdi, hki⟩
          case round =>
            clear HRI hNi rdi hki hpl'
            obtain ⟨i, ms, l2, E2, p2, c2, him, rfl, rfl, hNm, hml, hbs, hpl2, hrd2, hk2⟩ := hrel
            have Hml : Hid (ms.length = ns.length + i) := hml
            have hml2 : ms.length ≤ 1000 := by omega
            have Him : Hid (i + gk = m) := him
            by_cases hi : i < m
            · obtain ⟨g', rfl⟩ : ∃ g', gk = g' + 1 := ⟨gk - 1, by omega⟩
              clear hml him
              go_wp2_with fail
              refine (w_any wr r l2 _ E2 hrd2 (by have := hpl2.2; omega)).mono ?_
              rintro e w7 ⟨rfl, hrd7, hk7⟩
              have hN7 : NamesIn wn.heap.size w7 (.slice p2 ms.length c2) ms := hNm.along fun b hb hb2 => hk7.block b hb2 (by omega)
              have hk27 := hk2.trans hk7
              clear hNm hk2 hk7 hrd2
              go_wp2_with fail
              refine (name_any (peekW l2) _ (by have := hpl2.peek_len; omega)).mono ?_
              rintro e w8 ⟨rfl, hb8⟩
              have hrd8 := hrd7.below hb8
              have hN8 : NamesIn wn.heap.size w8 (.slice p2 ms.length c2) ms := hN7.along fun b _ hb2 => hb8.block b hb2
              have hk28 := hk27.trans (.of_below hb8 (r := r))
              clear hrd7 hN7 hk27 hb8
              have BS : Hid (bindS g' (ms ++ [peekW l2]) (restW l2) (if nameB (peekW l2) = false then failE (wE l2 E2) 7 else wE l2 E2) = Y) := by
                have h0 := hbs.out
                rw [bindS] at h0
                exact h0
              clear hbs
              cases hnb : nameB (peekW l2)
              · rw [hnb, if_pos rfl] at BS
                go_wp2_with fail
                refine (fail_any w8 r (restW l2) _ (wE l2 E2) 7 hrd8).mono ?_
                rintro e w9 ⟨rfl, hrd9, hk9⟩
                have hN9 : NamesIn wn.heap.size w9 (.slice p2 ms.length c2) ms := hN8.along fun b hb hb2 => hk9.block b hb2 (by omega)
                have hk29 := hk28.trans hk9
                clear hN8 hk28 hk9 hrd8
                have hz9 := hk29.size
                obtain ⟨v3, w3', hr3, hN3, hg3⟩ := append_name (w9.alloc (.cells #[.string ⟨(peekW l2).toArray⟩] 9)) wn.heap.size (.slice p2 ms.length c2) ms (hN9.along fun b _ hb2 => Below.heap_alloc _ _ _ hb2) w9.heap.size 1 (peekW l2) (heap_alloc_new _ _) (by omega) (by simp; omega) 36
                have hbk : ∀ b, b < wn.heap.size → w3'.heap[b]? = w9.heap[b]? := fun b hb => by
                  rw [grown_block (hN9.along fun b _ hb2 => Below.heap_alloc _ _ _ hb2) hg3 hb (by simp; omega)]
                  exact Below.heap_alloc _ _ _ (by omega)
                have hk3 : Kept r wn w3' := ⟨hg3.os.trans hk29.os, hg3.tape.trans hk29.tape, hg3.output.trans hk29.output, by have := hg3.size; simp at this; omega, fun b hb hbr => by rw [hbk b hb]; exact hk29.block b hb hbr⟩
                have rd3 : Rd w3' r (restW l2) (.slice pd ds.length cd) (failE (wE l2 E2) 7) := hrd9.of_block (hbk r (by omega))
                obtain ⟨p3, c3, rfl⟩ := hN3.form
                have HR3 : Hid ((Builtin.append_ #[36, 36] 36 #[.slice p2 ms.length c2, .slice (some ⟨w9.heap.size, 0, none⟩) 1 1]).run Tryd.prog (w9.alloc (.cells #[.string ⟨(peekW l2).toArray⟩] 9)) = .ok (.slice p3 (ms ++ [peekW l2]).length c3) w3') := hr3
                clear hr3 hbk hg3
                go_wp2_with (first | (at_builtin; refine wpList_append_run rfl _ _ 36 rfl _ _ _ rfl rfl HR3.out ?_))
                go_roundg g'
                case measure => omega
                case rel => exact ⟨i + 1, ms ++ [peekW l2], restW l2, (failE (wE l2 E2) 7), p3, c3, by have := Him.out; omega, by go_num, by simp, hN3, by have := Hml.out; simp; omega, BS, hpl2.rest, rd3, hk3⟩
              · rw [hnb, if_neg (by decide)] at BS
                have hz9 := hk28.size
                obtain ⟨v3, w3', hr3, hN3, hg3⟩ := append_name (w8.alloc (.cells #[.string ⟨(peekW l2).toArray⟩] 9)) wn.heap.size (.slice p2 ms.length c2) ms (hN8.along fun b _ hb2 => Below.heap_alloc _ _ _ hb2) w8.heap.size 1 (peekW l2) (heap_alloc_new _ _) (by omega) (by simp; omega) 36
                have hbk : ∀ b, b < wn.heap.size → w3'.heap[b]? = w8.heap[b]? := fun b hb => by
                  rw [grown_block (hN8.along fun b _ hb2 => Below.heap_alloc _ _ _ hb2) hg3 hb (by simp; omega)]
                  exact Below.heap_alloc _ _ _ (by omega)
                have hk3 : Kept r wn w3' := ⟨hg3.os.trans hk28.os, hg3.tape.trans hk28.tape, hg3.output.trans hk28.output, by have := hg3.size; simp at this; omega, fun b hb hbr => by rw [hbk b hb]; exact hk28.block b hb hbr⟩
                have rd3 : Rd w3' r (restW l2) (.slice pd ds.length cd) (wE l2 E2) := hrd8.of_block (hbk r (by omega))
                obtain ⟨p3, c3, rfl⟩ := hN3.form
                have HR3 : Hid ((Builtin.append_ #[36, 36] 36 #[.slice p2 ms.length c2, .slice (some ⟨w8.heap.size, 0, none⟩) 1 1]).run Tryd.prog (w8.alloc (.cells #[.string ⟨(peekW l2).toArray⟩] 9)) = .ok (.slice p3 (ms ++ [peekW l2]).length c3) w3') := hr3
                clear hr3 hbk hg3
                go_wp2_with (first | (at_builtin; refine wpList_append_run rfl _ _ 36 rfl _ _ _ rfl rfl HR3.out ?_))
                go_roundg g'
                case measure => omega
                case rel => exact ⟨i + 1, ms ++ [peekW l2], restW l2, (wE l2 E2), p3, c3, by have := Him.out; omega, by go_num, by simp, hN3, by have := Hml.out; simp; omega, BS, hpl2.rest, rd3, hk3⟩
            · have hg0 : gk = 0 := by omega
              subst hg0
              have hYe : Y = (ms, l2, E2) := by
                have h0 := hbs.out
                rw [bindS] at h0
                exact h0.symm
              have HYe : Hid (Y = (ms, l2, E2)) := hYe
              have him2 : m ≤ i := by omega
              clear hYe hml him hbs
              have bx7 := hk2.box (by omega) bxn
              have bt7 := hk2.box (by omega) btn
              have hA7 : ArgsIn (w5.heap.size + 1) wr (.slice pv (len A) cv) A := hAn.along fun b hb hb2 => hk2.block b hb2 (by omega)
              have hit7 : Hid (wr.heap[w5.heap.size]? = some (.stringIter ⟨(shpL (Tmx.kindOf (peekW l1))).toArray⟩ (pos + 1))) := by
                have : wr.heap[w5.heap.size]? = wn.heap[w5.heap.size]? := hk2.block _ (by omega) (by omega)
                show _ = _
                rw [this]
                exact HIT.out
              have hk7 := hkn.trans hk2
              have hS7 := hNm.strs (r := r) (by omega)
              have hD7 := hd.kept hk7
              have hz7 := hk2.size
              clear hAn bxn btn rdn hkn HIT
              have hcap : p2 = none → c2 = 0 := hNm.cap0
              by_cases h8 : 8 < ms.length
              · have td8 : decide ((8 : Int) < (ms.length : Int)) = true := by simp; omega
                have HE3 : Hid ((if 8 < ms.length then failE E2 5 else E2) = failE E2 5) := by rw [if_pos h8]; rfl
                go_wp2_with fail
                refine (fail_any wr r l2 _ E2 5 hrd2).mono ?_
                rintro e w8 ⟨rfl, hrd8, hk8⟩
                have bx8 := hk8.box (by omega) bx7
                have bt8 := hk8.box (by omega) bt7
                have hA8 : ArgsIn (w5.heap.size + 1) w8 (.slice pv (len A) cv) A := hA7.along fun b hb hb2 => hk8.block b hb2 (by omega)
                have hit8 : Hid (w8.heap[w5.heap.size]? = some (.stringIter ⟨(shpL (Tmx.kindOf (peekW l1))).toArray⟩ (pos + 1))) := by
                  show _ = _
                  rw [hk8.block _ (by omega) (by omega)]
                  exact hit7.out
                have hk78 := hk7.trans hk8
                have hS8 := hS7.kept hk8
                have hD8 := hD7.kept hk8
                have hz8 := hk8.size
                clear hA7 bx7 bt7 hrd2 hit7 hS7 hD7 hk8 hk7
                have HXb : Hid (argsS (termS ds n) ((shpL (Tmx.kindOf (peekW l1))).drop (pos + 1)) (snoc A (termS ds n ms l2 (failE E2 5)).1) ns (termS ds n ms l2 (failE E2 5)).2.1 (termS ds n ms l2 (failE E2 5)).2.2 = X) := by
                  have h0 := HXa.out
                  rw [argsS, HC.out, show 48 + m - 48 = m by omega, HY.out, HYe.out] at h0
                  dsimp only at h0
                  rw [HE3.out] at h0
                  exact h0
                have hpl5 := termS_plain ds n ms l2 (failE E2 5) hpl2
                obtain ⟨X5, hX5⟩ : ∃ X5, termS ds n ms l2 (failE E2 5) = X5 := ⟨_, rfl⟩
                have HX5 : Hid (termS ds n ms l2 (failE E2 5) = X5) := hX5
                rw [hX5] at HXb hpl5
                clear hX5
                have hcall : Calls Tryd.prog 53 #[.pointer (some ⟨r, 0, none⟩), .slice p2 ms.length c2, .int .i64 (25 - (n : Int))] w8.drew fun x w' => (∃ v, x = .returned v ∧ Tm w8.drew.heap.size w' v X5.1) ∧ Rd w' r X5.2.1 (.slice pd ds.length cd) X5.2.2 ∧ Kept r w8.drew w' := by
                  rw [← HX5.out]
                  exact H w8.drew r l2 (failE E2 5) ms p2 c2 (hrd8.of_block rfl) (hS8.kept (Kept.drew r w8)) (hD8.kept (Kept.drew r w8)) hcap hpl2 (by have h1 := Hml.out; have h2 := Him.out; omega) (by omega)
                have HC5 : Hid (Calls Tryd.prog 53 #[.pointer (some ⟨r, 0, none⟩), .slice p2 ms.length c2, .int .i64 (25 - (n : Int))] w8.drew fun x w' => (∃ v, x = .returned v ∧ Tm w8.drew.heap.size w' v X5.1) ∧ Rd w' r X5.2.1 (.slice pd ds.length cd) X5.2.2 ∧ Kept r w8.drew w') := hcall
                clear hcall
                obtain ⟨z0, z1, z2, y0, y1, y2⟩ := bt8.facts
                have lb8 := bt8.lt
                have hown8 : ∀ k, (Value.slice pv (len A) cv).ownBlock = some k → w5.heap.size + 1 ≤ k ∧ k < w8.heap.size := by
                  obtain ⟨xs, ho, _⟩ := hA8
                  exact ho.lt
                go_wp2_with fail
                go_region_law (first
                    | (refine step_append_run rfl _ _ 22 rfl _ _ _ rfl rfl hr6 ?_)
                    | (go_simp; go_at_call 53; rw [wrapI (24 - (n : Int) + 1) (by omega) (by omega), show (24 : Int) - (n : Int) + 1 = 25 - (n : Int) by omega]; refine HC5.out.mono ?_; rintro e w10 ⟨⟨v, rfl, p5, c5, rfl, hsl5⟩, hrd10, hk10⟩; obtain ⟨bt10, g6, cap6, w11, hr6, hA6, hbk6, hkp6, hz6⟩ := step26 (c5 := c5) (x := X5.1) lb8 (by omega) bt8 hA8 hown8 hsl5 hk10 hlA2 (by omega); obtain ⟨q0, q1, q2, t0, t1, t2⟩ := bt10.facts; have lb10 := bt10.lt; have bt11 := bt10.of_block (hbk6 _ (by omega)); obtain ⟨s0, s1, s2, v0, v1, v2⟩ := bt11.facts))
                all_goals
                  have hlsn : len (snoc A X5.1) = len A + 1 := len_snoc A X5.1
                  have rd12 : Rd (w11.setCell ⟨w1.heap.size, 2, none⟩ (.slice (some ⟨g6, 0, none⟩) (len A + 1) cap6)) r X5.2.1 (.slice pd ds.length cd) X5.2.2 := hrd10.of_block (by rw [Below.heap_setCell _ _ _ _ (by show r ≠ w1.heap.size; omega)]; exact hbk6 r (by omega))
                  have bx12 : Box (w11.setCell ⟨w1.heap.size, 2, none⟩ (.slice (some ⟨g6, 0, none⟩) (len A + 1) cap6)) w.heap.size (.int .i64 0) (.int .i64 0) (.slice none 0 0) := ((hk10.box (w := w8.drew) (by omega) (bx8.of_block rfl)).of_block (hbk6 _ (by omega))).setOther (by show w.heap.size ≠ w1.heap.size; omega) _
                  have bt12 : Box (w11.setCell ⟨w1.heap.size, 2, none⟩ (.slice (some ⟨g6, 0, none⟩) (len A + 1) cap6)) w1.heap.size (.int .i64 (Tmx.kindOf (peekW l1))) (.int .i64 0) (.slice (some ⟨g6, 0, none⟩) (len (snoc A X5.1)) cap6) := by rw [hlsn]; exact bt11.set2 _
                  have hA12 : ArgsIn (w5.heap.size + 1) (w11.setCell ⟨w1.heap.size, 2, none⟩ (.slice (some ⟨g6, 0, none⟩) (len A + 1) cap6)) (.slice (some ⟨g6, 0, none⟩) (len (snoc A X5.1)) cap6) (snoc A X5.1) := by
                    rw [hlsn]
                    exact hA6.along fun b hb _ => Below.heap_setCell _ _ _ _ (by show b ≠ w1.heap.size; omega)
                  have hit12 : Hid ((w11.setCell ⟨w1.heap.size, 2, none⟩ (.slice (some ⟨g6, 0, none⟩) (len A + 1) cap6)).heap[w5.heap.size]? = some (.stringIter ⟨(shpL (Tmx.kindOf (peekW l1))).toArray⟩ (pos + 1))) := by
                    show _ = _
                    rw [Below.heap_setCell _ _ _ _ (by show w5.heap.size ≠ w1.heap.size; omega), hbk6 _ (by omega), hk10.block _ (by show w5.heap.size < w8.heap.size; omega) (by omega)]
                    exact hit8.out
                  have hk12 : Kept r w (w11.setCell ⟨w1.heap.size, 2, none⟩ (.slice (some ⟨g6, 0, none⟩) (len A + 1) cap6)) := (hkp6 w hk78 (by omega)).setNew (by show w.heap.size ≤ w1.heap.size; omega) _
                  have hz12 : w5.heap.size + 1 ≤ (w11.setCell ⟨w1.heap.size, 2, none⟩ (.slice (some ⟨g6, 0, none⟩) (len A + 1) cap6)).heap.size := by simpa [World.setCell] using hz6
                  generalize w11.setCell ⟨w1.heap.size, 2, none⟩ (.slice (some ⟨g6, 0, none⟩) (len A + 1) cap6) = w12 at *
                  clear hlsn s0 s1 s2 v0 v1 v2 q0 q1 q2 t0 t1 t2 hr6 hA6 hbk6 hkp6 bt10 bt11 hsl5 hrd10 hk10
                  go_wp2_with fail
                  go_roundg ((shpL (Tmx.kindOf (peekW l1))).length - (pos + 1))
                  case measure => omega
                  case rel => exact ⟨pos + 1, snoc A X5.1, X5.2.1, X5.2.2, some ⟨g6, 0, none⟩, cap6, hlt, rfl, by rw [len_snoc, HLA.out], hit12.out, HXb, hpl5, rd12, bx12, bt12, hA12, hz12, hk12⟩
              · have td8 : decide ((8 : Int) < (ms.length : Int)) = false := by simp; omega
                have HE3 : Hid ((if 8 < ms.length then failE E2 5 else E2) = E2) := by rw [if_neg h8]; rfl
                have bx8 := bx7
                have bt8 := bt7
                have hA8 := hA7
                have hit8 := hit7
                have hk78 := hk7
                have hS8 := hS7
                have hD8 := hD7
                have hrd8 := hrd2
                clear hA7 bx7 bt7 hrd2 hit7 hS7 hD7 hk7
                have HXb : Hid (argsS (termS ds n) ((shpL (Tmx.kindOf (peekW l1))).drop (pos + 1)) (snoc A (termS ds n ms l2 E2).1) ns (termS ds n ms l2 E2).2.1 (termS ds n ms l2 E2).2.2 = X) := by
                  have h0 := HXa.out
                  rw [argsS, HC.out, show 48 + m - 48 = m by omega, HY.out, HYe.out] at h0
                  dsimp only at h0
                  rw [HE3.out] at h0
                  exact h0
                have hpl5 := termS_plain ds n ms l2 E2 hpl2
                obtain ⟨X5, hX5⟩ : ∃ X5, termS ds n ms l2 E2 = X5 := ⟨_, rfl⟩
                have HX5 : Hid (termS ds n ms l2 E2 = X5) := hX5
                rw [hX5] at HXb hpl5
                clear hX5
                have hcall : Calls Tryd.prog 53 #[.pointer (some ⟨r, 0, none⟩), .slice p2 ms.length c2, .int .i64 (25 - (n : Int))] wr.drew fun x w' => (∃ v, x = .returned v ∧ Tm wr.drew.heap.size w' v X5.1) ∧ Rd w' r X5.2.1 (.slice pd ds.length cd) X5.2.2 ∧ Kept r wr.drew w' := by
                  rw [← HX5.out]
                  exact H wr.drew r l2 E2 ms p2 c2 (hrd8.of_block rfl) (hS8.kept (Kept.drew r wr)) (hD8.kept (Kept.drew r wr)) hcap hpl2 (by have h1 := Hml.out; have h2 := Him.out; omega) (by omega)
                have HC5 : Hid (Calls Tryd.prog 53 #[.pointer (some ⟨r, 0, none⟩), .slice p2 ms.length c2, .int .i64 (25 - (n : Int))] wr.drew fun x w' => (∃ v, x = .returned v ∧ Tm wr.drew.heap.size w' v X5.1) ∧ Rd w' r X5.2.1 (.slice pd ds.length cd) X5.2.2 ∧ Kept r wr.drew w') := hcall
                clear hcall
                obtain ⟨z0, z1, z2, y0, y1, y2⟩ := bt8.facts
                have lb8 := bt8.lt
                have hown8 : ∀ k, (Value.slice pv (len A) cv).ownBlock = some k → w5.heap.size + 1 ≤ k ∧ k < wr.heap.size := by
                  obtain ⟨xs, ho, _⟩ := hA8
                  exact ho.lt
                go_wp2_with fail
                go_region_law (first
                    | (refine step_append_run rfl _ _ 22 rfl _ _ _ rfl rfl hr6 ?_)
                    | (go_simp; go_at_call 53; rw [wrapI (24 - (n : Int) + 1) (by omega) (by omega), show (24 : Int) - (n : Int) + 1 = 25 - (n : Int) by omega]; refine HC5.out.mono ?_; rintro e w10 ⟨⟨v, rfl, p5, c5, rfl, hsl5⟩, hrd10, hk10⟩; obtain ⟨bt10, g6, cap6, w11, hr6, hA6, hbk6, hkp6, hz6⟩ := step26 (c5 := c5) (x := X5.1) lb8 (by omega) bt8 hA8 hown8 hsl5 hk10 hlA2 (by omega); obtain ⟨q0, q1, q2, t0, t1, t2⟩ := bt10.facts; have lb10 := bt10.lt; have bt11 := bt10.of_block (hbk6 _ (by omega)); obtain ⟨s0, s1, s2, v0, v1, v2⟩ := bt11.facts))
                all_goals
                  have hlsn : len (snoc A X5.1) = len A + 1 := len_snoc A X5.1
                  have rd12 : Rd (w11.setCell ⟨w1.heap.size, 2, none⟩ (.slice (some ⟨g6, 0, none⟩) (len A + 1) cap6)) r X5.2.1 (.slice pd ds.length cd) X5.2.2 := hrd10.of_block (by rw [Below.heap_setCell _ _ _ _ (by show r ≠ w1.heap.size; omega)]; exact hbk6 r (by omega))
                  have bx12 : Box (w11.setCell ⟨w1.heap.size, 2, none⟩ (.slice (some ⟨g6, 0, none⟩) (len A + 1) cap6)) w.heap.size (.int .i64 0) (.int .i64 0) (.slice none 0 0) := ((hk10.box (w := wr.drew) (by omega) (bx8.of_block rfl)).of_block (hbk6 _ (by omega))).setOther (by show w.heap.size ≠ w1.heap.size; omega) _
                  have bt12 : Box (w11.setCell ⟨w1.heap.size, 2, none⟩ (.slice (some ⟨g6, 0, none⟩) (len A + 1) cap6)) w1.heap.size (.int .i64 (Tmx.kindOf (peekW l1))) (.int .i64 0) (.slice (some ⟨g6, 0, none⟩) (len (snoc A X5.1)) cap6) := by rw [hlsn]; exact bt11.set2 _
                  have hA12 : ArgsIn (w5.heap.size + 1) (w11.setCell ⟨w1.heap.size, 2, none⟩ (.slice (some ⟨g6, 0, none⟩) (len A + 1) cap6)) (.slice (some ⟨g6, 0, none⟩) (len (snoc A X5.1)) cap6) (snoc A X5.1) := by
                    rw [hlsn]
                    exact hA6.along fun b hb _ => Below.heap_setCell _ _ _ _ (by show b ≠ w1.heap.size; omega)
                  have hit12 : Hid ((w11.setCell ⟨w1.heap.size, 2, none⟩ (.slice (some ⟨g6, 0, none⟩) (len A + 1) cap6)).heap[w5.heap.size]? = some (.stringIter ⟨(shpL (Tmx.kindOf (peekW l1))).toArray⟩ (pos + 1))) := by
                    show _ = _
                    rw [Below.heap_setCell _ _ _ _ (by show w5.heap.size ≠ w1.heap.size; omega), hbk6 _ (by omega), hk10.block _ (by show w5.heap.size < wr.heap.size; omega) (by omega)]
                    exact hit8.out
                  have hk12 : Kept r w (w11.setCell ⟨w1.heap.size, 2, none⟩ (.slice (some ⟨g6, 0, none⟩) (len A + 1) cap6)) := (hkp6 w hk78 (by omega)).setNew (by show w.heap.size ≤ w1.heap.size; omega) _
                  have hz12 : w5.heap.size + 1 ≤ (w11.setCell ⟨w1.heap.size, 2, none⟩ (.slice (some ⟨g6, 0, none⟩) (len A + 1) cap6)).heap.size := by simpa [World.setCell] using hz6
                  generalize w11.setCell ⟨w1.heap.size, 2, none⟩ (.slice (some ⟨g6, 0, none⟩) (len A + 1) cap6) = w12 at *
                  clear hlsn s0 s1 s2 v0 v1 v2 q0 q1 q2 t0 t1 t2 hr6 hA6 hbk6 hkp6 bt10 bt11 hsl5 hrd10 hk10
                  go_wp2_with fail
                  go_roundg ((shpL (Tmx.kindOf (peekW l1))).length - (pos + 1))
                  case measure => omega
                  case rel => exact ⟨pos + 1, snoc A X5.1, X5.2.1, X5.2.2, some ⟨g6, 0, none⟩, cap6, hlt, rfl, by rw [len_snoc, HLA.out], hit12.out, HXb, hpl5, rd12, bx12, bt12, hA12, hz12, hk12⟩
        · obtain rfl : pos = (shpL (Tmx.kindOf (peekW l1))).length := by omega
          have hXe : X = (A, l', E') := by
            have h0 := hX'.out
            rw [List.drop_length, argsS] at h0
            exact h0.symm
          have HXe : Hid (X = (A, l', E')) := hXe
          clear hXe hX' HX
          have hnx := next_none wr w5.heap.size (shpL (Tmx.kindOf (peekW l1))).length ⟨(shpL (Tmx.kindOf (peekW l1))).toArray⟩ hit (by simp [ByteArray.size])
          have HLA : Hid (len A = (shpL (Tmx.kindOf (peekW l1))).length) := hlA
          clear hlA hit
          go_wp2_with fail
          clear hnx
          refine (w_any wr r l' _ E' hrd (by have := hpl'.2; omega)).mono ?_
          rintro e w7 ⟨rfl, hrd7, hk7⟩
          have bx7 := hk7.box (by omega) hbx
          have bt7 := hk7.box (by omega) hbt
          have hA7 : ArgsIn (w5.heap.size + 1) w7 (.slice pv (len A) cv) A := hAI.along fun b hb hb2 => hk7.block b hb2 (by omega)
          have hk77 := hk.trans hk7
          clear hbx hbt hAI hrd hk hk7
          have HT2 : Hid (termS ds (n + 1) ns l E = (((Tmx.kindOf (peekW l1)), 0, A), restW l', tailE l' E')) := by
            rw [HT.out, HK.out.1, HXe.out]
            rfl
          by_cases h41 : peekW l' = [41]
          · have t41 : (peekW l' == [41]) = true := by simpa using h41
            have HE4 : Hid (tailE l' E' = wE l' E') := by unfold tailE; rw [if_pos h41]; rfl
            clear h41
            obtain ⟨x0, x1, x2, y0, y1, y2⟩ := bx7.facts
            obtain ⟨z0, z1, z2, _, _, _⟩ := bt7.facts
            go_wp2_with fail
            obtain ⟨d0, d1, d2, _, _, _⟩ := (bx7.set (.int .i64 (Tmx.kindOf (peekW l1))) (.int .i64 0) (.slice pv (len A) cv)).facts
            refine bodyPost_ret (v := .agg #[.int .i64 (Tmx.kindOf (peekW l1)), .int .i64 0, .slice pv (len A) cv]) (by simp [results, Tryd.results53, go_sem, d0, d1, d2]) rfl ⟨⟨_, rfl, pv, cv, by rw [HT2.out], ?_⟩, ?_, ?_⟩
            · rw [HT2.out]
              exact (((hA7.slF.setCell (by show w.heap.size < _; omega) _).setCell (by show w.heap.size < _; omega) _).setCell (by show w.heap.size < _; omega) _).mono (by omega)
            · rw [HT2.out, HE4.out]
              exact hrd7.of_block (by rw [Below.heap_setCell _ _ _ _ hrz, Below.heap_setCell _ _ _ _ hrz, Below.heap_setCell _ _ _ _ hrz])
            · exact ((hk77.setNew (Nat.le_refl _) _).setNew (Nat.le_refl _) _).setNew (Nat.le_refl _) _
          · have t41 : (peekW l' == [41]) = false := by simpa using h41
            have HE4 : Hid (tailE l' E' = failE (wE l' E') 2) := by unfold tailE; rw [if_neg h41]; rfl
            clear h41
            go_wp2_with fail
            refine (fail_any w7 r (restW l') _ (wE l' E') 2 hrd7).mono ?_
            rintro e w8 ⟨rfl, hrd8, hk8⟩
            have bx8 := hk8.box (by omega) bx7
            have bt8 := hk8.box (by omega) bt7
            have hA8 : ArgsIn (w5.heap.size + 1) w8 (.slice pv (len A) cv) A := hA7.along fun b hb hb2 => hk8.block b hb2 (by omega)
            have hk78 := hk77.trans hk8
            clear bx7 bt7 hA7 hrd7 hk77
            obtain ⟨x0, x1, x2, y0, y1, y2⟩ := bx8.facts
            obtain ⟨z0, z1, z2, _, _, _⟩ := bt8.facts
            go_wp2_with fail
            obtain ⟨d0, d1, d2, _, _, _⟩ := (bx8.set (.int .i64 (Tmx.kindOf (peekW l1))) (.int .i64 0) (.slice pv (len A) cv)).facts
            refine bodyPost_ret (v := .agg #[.int .i64 (Tmx.kindOf (peekW l1)), .int .i64 0, .slice pv (len A) cv]) (by simp [results, Tryd.results53, go_sem, d0, d1, d2]) rfl ⟨⟨_, rfl, pv, cv, by rw [HT2.out], ?_⟩, ?_, ?_⟩
            · rw [HT2.out]
              exact (((hA8.slF.setCell (by show w.heap.size < _; omega) _).setCell (by show w.heap.size < _; omega) _).setCell (by show w.heap.size < _; omega) _).mono (by omega)
            · rw [HT2.out, HE4.out]
              exact hrd8.of_block (by rw [Below.heap_setCell _ _ _ _ hrz, Below.heap_setCell _ _ _ _ hrz, Below.heap_setCell _ _ _ _ hrz])
            · exact ((hk78.setNew (Nat.le_refl _) _).setNew (Nat.le_refl _) _).setNew (Nat.le_refl _) _
  · have tK : decide ((0 : Int) < Tmx.kindOf (peekW l1)) = false := by simpa using hK
    have HK : Hid (headK l1 = 5 ∧ headL l1 = skip l1 ∧ headE l1 E1 = E1) := by
      have hno : ¬ (0 < Tmx.kindOf (peekW l1) ∧ shpL (Tmx.kindOf (peekW l1)) ≠ []) := fun h => hK h.1
      unfold headK headL headE
      rw [if_neg hno, if_neg hno, if_neg hno]
      exact ⟨rfl, rfl, rfl⟩
    obtain ⟨x0, x1, x2, y0, y1, y2⟩ := bt3.facts
    go_wp2_with fail
    refine (shape_any 5 _).mono ?_
    rintro e w5 ⟨rfl, hb5⟩
    rw [show shp 5 = ⟨(shpL 5).toArray⟩ from rfl]
    have rd5 := rd3.below hb5
    have bt5 := bt3.below hb5
    have bx5 := bx3.below hb5
    have kt5 := kt3.trans (.of_below hb5 (r := r))
    clear rd3 bt3 bx3 kt3 hb5 x0 x1 x2 y0 y1 y2
    go_wp2_with fail
    have hkd : (1 : Int) ≤ 5 ∧ (5 : Int) ≤ 18 := by omega
    have hI : (w5.iter ⟨(shpL 5).toArray⟩ 0).heap[w5.heap.size]? = some (.stringIter ⟨(shpL 5).toArray⟩ 0) := World.iter_heap _ _ _
    have hbI : Below w5.heap.size w5 (w5.iter ⟨(shpL 5).toArray⟩ 0) := (Below.refl _ _).alloc (Nat.le_refl _) _
    have rd6 := rd5.below hbI
    have bt6 := bt5.below hbI
    have bx6 := bx5.below hbI
    have kt6 := kt5.trans (.of_below hbI (r := r))
    have hz6 : (w5.iter ⟨(shpL 5).toArray⟩ 0).heap.size = w5.heap.size + 1 := by simp [World.iter]
    have lt1 : w1.heap.size < w5.heap.size := bt5.lt
    have lt2 : r < w.heap.size := hr0
    have HX2 : Hid (argsS (termS ds n) (shpL 5) .nil ns (skip l1) E1 = X) := by
      have hx := HX.out
      rw [HK.out.1, HK.out.2.1, HK.out.2.2] at hx
      exact hx
    have hpl2 : plainT (skip l1) := by rw [← HK.out.2.1]; exact head_plain hpl1
    have h4 := shpL_len 5
    go_loopg [] (shpL 5).length (fun g wr => ∃ (pos : Nat) (A : F) (l' : List UInt8) (E' : Int) (pv : Option Addr) (cv : Nat), pos ≤ (shpL 5).length ∧ g = (shpL 5).length - pos ∧ len A = pos ∧
        wr.heap[w5.heap.size]? = some (.stringIter ⟨(shpL 5).toArray⟩ pos) ∧ Hid (argsS (termS ds n) ((shpL 5).drop pos) A ns l' E' = X) ∧ plainT l' ∧ Rd wr r l' (.slice pd ds.length cd) E' ∧
        Box wr w.heap.size (.int .i64 0) (.int .i64 0) (.slice none 0 0) ∧ Box wr w1.heap.size (.int .i64 5) (.int .i64 0) (.slice pv (len A) cv) ∧ ArgsIn (w5.heap.size + 1) wr (.slice pv (len A) cv) A ∧ w5.heap.size + 1 ≤ wr.heap.size ∧ Kept r w wr)
    case atStart =>
      exact ⟨0, .nil, (skip l1), E1, none, 0, Nat.zero_le _, by simp, rfl, hI, by show argsS _ (List.drop 0 _) _ _ _ _ = X; simpa using HX2.out, hpl2, rd6, bx6, bt6, ArgsIn.nil _ _, by omega, kt6⟩
    case round =>
      clear rd6 bt6 bx6 kt6 hI hbI hz6 rd5 bt5 bx5 kt5 hpl2 HX2
      obtain ⟨pos, A, l', E', pv, cv, hpos, rfl, hlA, hit, hX', hpl', hrd, hbx, hbt, hAI, hsz, hk⟩ := hrel
      by_cases hlt : pos < (shpL 5).length
      · obtain ⟨c, hc⟩ : ∃ c, (shpL 5)[pos] = c := ⟨_, rfl⟩
        have hcb : (c.toNat : Int) = 48 + bindsAt 5 pos := by rw [← hc]; exact shp_byte 5 hkd pos hlt
        have hbd := bindsAt_bd 5 pos
        obtain ⟨m, hm⟩ : ∃ m : Nat, c.toNat = 48 + m := ⟨c.toNat - 48, by omega⟩
        have hm2 : m ≤ 2 := by omega
        have hdrop : (shpL 5).drop pos = c :: (shpL 5).drop (pos + 1) := by rw [List.drop_eq_getElem_cons hlt, hc]
        have HXa : Hid (argsS (termS ds n) (c :: (shpL 5).drop (pos + 1)) A ns l' E' = X) := by
          have := hX'.out
          rw [hdrop] at this
          exact this
        obtain ⟨wn, hnx, hit2, hblk, hwz, hos, htp, hou⟩ := next_sign wr w5.heap.size pos ⟨(shpL 5).toArray⟩ hit (by simpa [ByteArray.size] using hlt) (by show ((shpL 5)[pos]).toNat < 128; rw [hc]; omega)
        have hcc : ((⟨(shpL 5).toArray⟩ : ByteArray)[pos]'(by simpa [ByteArray.size] using hlt)).toNat = 48 + m := by show ((shpL 5)[pos]).toNat = _; rw [hc]; exact hm
        have hnx2 : ∀ ty, (Instr.next (.pointer (some ⟨w5.heap.size, 0, none⟩)) true ty).run Tryd.prog wr = .ok (.tuple #[.bool true, .int .i64 pos, .int .i32 (48 + (m : Int))]) wn := fun ty => by rw [hnx ty, hcc]; simp
        clear hnx hcc hdrop hX' hcb hbd
        have hkn : Kept r w wn := ⟨hos.trans hk.os, htp.trans hk.tape, hou.trans hk.output, by rw [hwz]; exact hk.size, fun b hb hbr => by rw [hblk b (by omega)]; exact hk.block b hb hbr⟩
        have rdn := hrd.of_block (hblk r (by omega))
        have bxn := hbx.of_block (hblk w.heap.size (by omega))
        have btn := hbt.of_block (hblk w1.heap.size (by omega))
        have hAn : ArgsIn (w5.heap.size + 1) wn (.slice pv (len A) cv) A := hAI.along fun b hb _ => hblk b (by omega)
        clear hos htp hou hit hrd hbx hbt hAI hk hblk
        have hBn : (wn.alloc (.cells #[] 9)).heap[wn.heap.size]? = some (.cells #[] 9 (0, 0)) := heap_alloc_new _ _
        have hbn : Below wn.heap.size wn (wn.alloc (.cells #[] 9)) := (Below.refl _ _).alloc (Nat.le_refl _) _
        obtain ⟨vi, wi, hri, hNi, hgi⟩ := copy_names (wn.alloc (.cells #[] 9)) wn.heap.size r wn.heap.size pn cn ns hBn (Nat.le_refl _) ((hn.kept hkn).kept (.of_below hbn)) hp (by omega) (by simp) 36
        have hki : Kept r wn wi := ⟨hgi.os, hgi.tape, hgi.output, by have := hgi.size; simp at this; omega, fun b hb _ => by rw [hgi.block b (by simp; omega) (by simp; omega)]; exact Below.heap_alloc _ _ _ hb⟩
        have rdi : Rd wi r l' (.slice pd ds.length cd) E' := rdn.of_block (by rw [hgi.block r (by simp; omega) (by simp; omega)]; exact Below.heap_alloc _ _ _ (by omega))
        clear hbn hgi
        have hs1 : wn.heap.size ≤ wr.heap.size ∧ wr.heap.size ≤ wn.heap.size := by omega
        have HLA : Hid (len A = pos) := hlA
        have HC : Hid (c.toNat = 48 + m) := hm
        have HIT : Hid (wn.heap[w5.heap.size]? = some (.stringIter ⟨(shpL 5).toArray⟩ (pos + 1))) := hit2
        have hlA2 : len A ≤ 4 := by omega
        clear hlA hc hm hit2 hBn hwz
        obtain ⟨pi, ci, rfl⟩ := hNi.form
        have HRI : Hid ((Builtin.append_ #[36, 36] 36 #[.slice (some ⟨wn.heap.size, 0, none⟩) 0 0, .slice pn ns.length cn]).run Tryd.prog (wn.alloc (.cells #[] 9)) = .ok (.slice pi ns.length ci) wi) := hri
        clear hri
        go_wp2_with (first | (at_builtin; refine wpList_append_run rfl _ _ 36 rfl _ _ _ rfl rfl HRI.out ?_))
        obtain ⟨Y, hY⟩ : ∃ Y, bindS m ns l' E' = Y := ⟨_, rfl⟩
        have HY : Hid (bindS m ns l' E' = Y) := hY
        clear hY
        obtain ⟨wo, rfl⟩ : ∃ wo : World, wo = wr := ⟨_, rfl⟩
        go_loopg [12, 13, 60] m (fun g vv _ cnt wr2 => ∃ (i : Nat) (ms : List (List UInt8)) (l2 : List UInt8) (E2 : Int) (p2 : Option Addr) (c2 : Nat), i + g = m ∧ cnt = .int .i64 (i : Int) ∧ vv = .slice p2 ms.length c2 ∧ NamesIn wn.heap.size wr2 (.slice p2 ms.length c2) ms ∧ ms.length = ns.length + i ∧
            Hid (bindS g ms l2 E2 = Y) ∧ plainT l2 ∧ Rd wr2 r l2 (.slice pd ds.length cd) E2 ∧ Kept r wn wr2)
        case atStart => exact ⟨0, ns, l', E', pi, ci, by omega, rfl, rfl, hNi, rfl, HY, hpl', rdi, hki⟩
        case round =>
          clear HRI hNi rdi hki hpl'
          obtain ⟨i, ms, l2, E2, p2, c2, him, rfl, rfl, hNm, hml, hbs, hpl2, hrd2, hk2⟩ := hrel
          have Hml : Hid (ms.length = ns.length + i) := hml
          have hml2 : ms.length ≤ 1000 := by omega
          have Him : Hid (i + gk = m) := him
          by_cases hi : i < m
          · obtain ⟨g', rfl⟩ : ∃ g', gk = g' + 1 := ⟨gk - 1, by omega⟩
            clear hml him
            go_wp2_with fail
            refine (w_any wr r l2 _ E2 hrd2 (by have := hpl2.2; omega)).mono ?_
            rintro e w7 ⟨rfl, hrd7, hk7⟩
            have hN7 : NamesIn wn.heap.size w7 (.slice p2 ms.length c2) ms := hNm.along fun b hb hb2 => hk7.block b hb2 (by omega)
            have hk27 := hk2.trans hk7
            clear hNm hk2 hk7 hrd2
            go_wp2_with fail
            refine (name_any (peekW l2) _ (by have := hpl2.peek_len; omega)).mono ?_
            rintro e w8 ⟨rfl, hb8⟩
            have hrd8 := hrd7.below hb8
            have hN8 : NamesIn wn.heap.size w8 (.slice p2 ms.length c2) ms := hN7.along fun b _ hb2 => hb8.block b hb2
            have hk28 := hk27.trans (.of_below hb8 (r := r))
            clear hrd7 hN7 hk27 hb8
            have BS : Hid (bindS g' (ms ++ [peekW l2]) (restW l2) (if nameB (peekW l2) = false then failE (wE l2 E2) 7 else wE l2 E2) = Y) := by
              have h0 := hbs.out
              rw [bindS] at h0
              exact h0
            clear hbs
            cases hnb : nameB (peekW l2)
            · rw [hnb, if_pos rfl] at BS
              go_wp2_with fail
              refine (fail_any w8 r (restW l2) _ (wE l2 E2) 7 hrd8).mono ?_
              rintro e w9 ⟨rfl, hrd9, hk9⟩
              have hN9 : NamesIn wn.heap.size w9 (.slice p2 ms.length c2) ms := hN8.along fun b hb hb2 => hk9.block b hb2 (by omega)
              have hk29 := hk28.trans hk9
              clear hN8 hk28 hk9 hrd8
              have hz9 := hk29.size
              obtain ⟨v3, w3', hr3, hN3, hg3⟩ := append_name (w9.alloc (.cells #[.string ⟨(peekW l2).toArray⟩] 9)) wn.heap.size (.slice p2 ms.length c2) ms (hN9.along fun b _ hb2 => Below.heap_alloc _ _ _ hb2) w9.heap.size 1 (peekW l2) (heap_alloc_new _ _) (by omega) (by simp; omega) 36
              have hbk : ∀ b, b < wn.heap.size → w3'.heap[b]? = w9.heap[b]? := fun b hb => by
                rw [grown_block (hN9.along fun b _ hb2 => Below.heap_alloc _ _ _ hb2) hg3 hb (by simp; omega)]
                exact Below.heap_alloc _ _ _ (by omega)
              have hk3 : Kept r wn w3' := ⟨hg3.os.trans hk29.os, hg3.tape.trans hk29.tape, hg3.output.trans hk29.output, by have := hg3.size; simp at this; omega, fun b hb hbr => by rw [hbk b hb]; exact hk29.block b hb hbr⟩
              have rd3 : Rd w3' r (restW l2) (.slice pd ds.length cd) (failE (wE l2 E2) 7) := hrd9.of_block (hbk r (by omega))
              obtain ⟨p3, c3, rfl⟩ := hN3.form
              have HR3 : Hid ((Builtin.append_ #[36, 36] 36 #[.slice p2 ms.length c2, .slice (some ⟨w9.heap.size, 0, none⟩) 1 1]).run Tryd.prog (w9.alloc (.cells #[.string ⟨(peekW l2).toArray⟩] 9)) = .ok (.slice p3 (ms ++ [peekW l2]).length c3) w3') := hr3
              clear hr3 hbk hg3
              go_wp2_with (first | (at_builtin; refine wpList_append_run rfl _ _ 36 rfl _ _ _ rfl rfl HR3.out ?_))
              go_roundg g'
              case measure => omega
              case rel => exact ⟨i + 1, ms ++ [peekW l2], restW l2, (failE (wE l2 E2) 7), p3, c3, by have := Him.out; omega, by go_num, by simp, hN3, by have := Hml.out; simp; omega, BS, hpl2.rest, rd3, hk3⟩
            · rw [hnb, if_neg (by decide)] at BS
              have hz9 := hk28.size
              obtain ⟨v3, w3', hr3, hN3, hg3⟩ := append_name (w8.alloc (.cells #[.string ⟨(peekW l2).toArray⟩] 9)) wn.heap.size (.slice p2 ms.length c2) ms (hN8.along fun b _ hb2 => Below.heap_alloc _ _ _ hb2) w8.heap.size 1 (peekW l2) (heap_alloc_new _ _) (by omega) (by simp; omega) 36
              have hbk : ∀ b, b < wn.heap.size → w3'.heap[b]? = w8.heap[b]? := fun b hb => by
                rw [grown_block (hN8.along fun b _ hb2 => Below.heap_alloc _ _ _ hb2) hg3 hb (by simp; omega)]
                exact Below.heap_alloc _ _ _ (by omega)
              have hk3 : Kept r wn w3' := ⟨hg3.os.trans hk28.os, hg3.tape.trans hk28.tape, hg3.output.trans hk28.output, by have := hg3.size; simp at this; omega, fun b hb hbr => by rw [hbk b hb]; exact hk28.block b hb hbr⟩
              have rd3 : Rd w3' r (restW l2) (.slice pd ds.length cd) (wE l2 E2) := hrd8.of_block (hbk r (by omega))
              obtain ⟨p3, c3, rfl⟩ := hN3.form
              have HR3 : Hid ((Builtin.append_ #[36, 36] 36 #[.slice p2 ms.length c2, .slice (some ⟨w8.heap.size, 0, none⟩) 1 1]).run Tryd.prog (w8.alloc (.cells #[.string ⟨(peekW l2).toArray⟩] 9)) = .ok (.slice p3 (ms ++ [peekW l2]).length c3) w3') := hr3
              clear hr3 hbk hg3
              go_wp2_with (first | (at_builtin; refine wpList_append_run rfl _ _ 36 rfl _ _ _ rfl rfl HR3.out ?_))
              go_roundg g'
              case measure => omega
              case rel => exact ⟨i + 1, ms ++ [peekW l2], restW l2, (wE l2 E2), p3, c3, by have := Him.out; omega, by go_num, by simp, hN3, by have := Hml.out; simp; omega, BS, hpl2.rest, rd3, hk3⟩
          · have hg0 : gk = 0 := by omega
            subst hg0
            have hYe : Y = (ms, l2, E2) := by
              have h0 := hbs.out
              rw [bindS] at h0
              exact h0.symm
            have HYe : Hid (Y = (ms, l2, E2)) := hYe
            have him2 : m ≤ i := by omega
            clear hYe hml him hbs
            have bx7 := hk2.box (by omega) bxn
            have bt7 := hk2.box (by omega) btn
            have hA7 : ArgsIn (w5.heap.size + 1) wr (.slice pv (len A) cv) A := hAn.along fun b hb hb2 => hk2.block b hb2 (by omega)
            have hit7 : Hid (wr.heap[w5.heap.size]? = some (.stringIter ⟨(shpL 5).toArray⟩ (pos + 1))) := by
              have : wr.heap[w5.heap.size]? = wn.heap[w5.heap.size]? := hk2.block _ (by omega) (by omega)
              show _ = _
              rw [this]
              exact HIT.out
            have hk7 := hkn.trans hk2
            have hS7 := hNm.strs (r := r) (by omega)
            have hD7 := hd.kept hk7
            have hz7 := hk2.size
            clear hAn bxn btn rdn hkn HIT
            have hcap : p2 = none → c2 = 0 := hNm.cap0
            by_cases h8 : 8 < ms.length
            · have td8 : decide ((8 : Int) < (ms.length : Int)) = true := by simp; omega
              have HE3 : Hid ((if 8 < ms.length then failE E2 5 else E2) = failE E2 5) := by rw [if_pos h8]; rfl
              go_wp2_with fail
              refine (fail_any wr r l2 _ E2 5 hrd2).mono ?_
              rintro e w8 ⟨rfl, hrd8, hk8⟩
              have bx8 := hk8.box (by omega) bx7
              have bt8 := hk8.box (by omega) bt7
              have hA8 : ArgsIn (w5.heap.size + 1) w8 (.slice pv (len A) cv) A := hA7.along fun b hb hb2 => hk8.block b hb2 (by omega)
              have hit8 : Hid (w8.heap[w5.heap.size]? = some (.stringIter ⟨(shpL 5).toArray⟩ (pos + 1))) := by
                show _ = _
                rw [hk8.block _ (by omega) (by omega)]
                exact hit7.out
              have hk78 := hk7.trans hk8
              have hS8 := hS7.kept hk8
              have hD8 := hD7.kept hk8
              have hz8 := hk8.size
              clear hA7 bx7 bt7 hrd2 hit7 hS7 hD7 hk8 hk7
              have HXb : Hid (argsS (termS ds n) ((shpL 5).drop (pos + 1)) (snoc A (termS ds n ms l2 (failE E2 5)).1) ns (termS ds n ms l2 (failE E2 5)).2.1 (termS ds n ms l2 (failE E2 5)).2.2 = X) := by
                have h0 := HXa.out
                rw [argsS, HC.out, show 48 + m - 48 = m by omega, HY.out, HYe.out] at h0
                dsimp only at h0
                rw [HE3.out] at h0
                exact h0
              have hpl5 := termS_plain ds n ms l2 (failE E2 5) hpl2
              obtain ⟨X5, hX5⟩ : ∃ X5, termS ds n ms l2 (failE E2 5) = X5 := ⟨_, rfl⟩
              have HX5 : Hid (termS ds n ms l2 (failE E2 5) = X5) := hX5
              rw [hX5] at HXb hpl5
              clear hX5
              have hcall : Calls Tryd.prog 53 #[.pointer (some ⟨r, 0, none⟩), .slice p2 ms.length c2, .int .i64 (25 - (n : Int))] w8.drew fun x w' => (∃ v, x = .returned v ∧ Tm w8.drew.heap.size w' v X5.1) ∧ Rd w' r X5.2.1 (.slice pd ds.length cd) X5.2.2 ∧ Kept r w8.drew w' := by
                rw [← HX5.out]
                exact H w8.drew r l2 (failE E2 5) ms p2 c2 (hrd8.of_block rfl) (hS8.kept (Kept.drew r w8)) (hD8.kept (Kept.drew r w8)) hcap hpl2 (by have h1 := Hml.out; have h2 := Him.out; omega) (by omega)
              have HC5 : Hid (Calls Tryd.prog 53 #[.pointer (some ⟨r, 0, none⟩), .slice p2 ms.length c2, .int .i64 (25 - (n : Int))] w8.drew fun x w' => (∃ v, x = .returned v ∧ Tm w8.drew.heap.size w' v X5.1) ∧ Rd w' r X5.2.1 (.slice pd ds.length cd) X5.2.2 ∧ Kept r w8.drew w') := hcall
              clear hcall
              obtain ⟨z0, z1, z2, y0, y1, y2⟩ := bt8.facts
              have lb8 := bt8.lt
              have hown8 : ∀ k, (Value.slice pv (len A) cv).ownBlock = some k → w5.heap.size + 1 ≤ k ∧ k < w8.heap.size := by
                obtain ⟨xs, ho, _⟩ := hA8
                exact ho.lt
              go_wp2_with fail
              go_region_law (first
                  | (refine step_append_run rfl _ _ 22 rfl _ _ _ rfl rfl hr6 ?_)
                  | (go_simp; go_at_call 53; rw [wrapI (24 - (n : Int) + 1) (by omega) (by omega), show (24 : Int) - (n : Int) + 1 = 25 - (n : Int) by omega]; refine HC5.out.mono ?_; rintro e w10 ⟨⟨v, rfl, p5, c5, rfl, hsl5⟩, hrd10, hk10⟩; obtain ⟨bt10, g6, cap6, w11, hr6, hA6, hbk6, hkp6, hz6⟩ := step26 (c5 := c5) (x := X5.1) lb8 (by omega) bt8 hA8 hown8 hsl5 hk10 hlA2 (by omega); obtain ⟨q0, q1, q2, t0, t1, t2⟩ := bt10.facts; have lb10 := bt10.lt; have bt11 := bt10.of_block (hbk6 _ (by omega)); obtain ⟨s0, s1, s2, v0, v1, v2⟩ := bt11.facts))
              all_goals
                have hlsn : len (snoc A X5.1) = len A + 1 := len_snoc A X5.1
                have rd12 : Rd (w11.setCell ⟨w1.heap.size, 2, none⟩ (.slice (some ⟨g6, 0, none⟩) (len A + 1) cap6)) r X5.2.1 (.slice pd ds.length cd) X5.2.2 := hrd10.of_block (by rw [Below.heap_setCell _ _ _ _ (by show r ≠ w1.heap.size; omega)]; exact hbk6 r (by omega))
                have bx12 : Box (w11.setCell ⟨w1.heap.size, 2, none⟩ (.slice (some ⟨g6, 0, none⟩) (len A + 1) cap6)) w.heap.size (.int .i64 0) (.int .i64 0) (.slice none 0 0) := ((hk10.box (w := w8.drew) (by omega) (bx8.of_block rfl)).of_block (hbk6 _ (by omega))).setOther (by show w.heap.size ≠ w1.heap.size; omega) _
                have bt12 : Box (w11.setCell ⟨w1.heap.size, 2, none⟩ (.slice (some ⟨g6, 0, none⟩) (len A + 1) cap6)) w1.heap.size (.int .i64 5) (.int .i64 0) (.slice (some ⟨g6, 0, none⟩) (len (snoc A X5.1)) cap6) := by rw [hlsn]; exact bt11.set2 _
                have hA12 : ArgsIn (w5.heap.size + 1) (w11.setCell ⟨w1.heap.size, 2, none⟩ (.slice (some ⟨g6, 0, none⟩) (len A + 1) cap6)) (.slice (some ⟨g6, 0, none⟩) (len (snoc A X5.1)) cap6) (snoc A X5.1) := by
                  rw [hlsn]
                  exact hA6.along fun b hb _ => Below.heap_setCell _ _ _ _ (by show b ≠ w1.heap.size; omega)
                have hit12 : Hid ((w11.setCell ⟨w1.heap.size, 2, none⟩ (.slice (some ⟨g6, 0, none⟩) (len A + 1) cap6)).heap[w5.heap.size]? = some (.stringIter ⟨(shpL 5).toArray⟩ (pos + 1))) := by
                  show _ = _
                  rw [Below.heap_setCell _ _ _ _ (by show w5.heap.size ≠ w1.heap.size; omega), hbk6 _ (by omega), hk10.block _ (by show w5.heap.size < w8.heap.size; omega) (by omega)]
                  exact hit8.out
                have hk12 : Kept r w (w11.setCell ⟨w1.heap.size, 2, none⟩ (.slice (some ⟨g6, 0, none⟩) (len A + 1) cap6)) := (hkp6 w hk78 (by omega)).setNew (by show w.heap.size ≤ w1.heap.size; omega) _
                have hz12 : w5.heap.size + 1 ≤ (w11.setCell ⟨w1.heap.size, 2, none⟩ (.slice (some ⟨g6, 0, none⟩) (len A + 1) cap6)).heap.size := by simpa [World.setCell] using hz6
                generalize w11.setCell ⟨w1.heap.size, 2, none⟩ (.slice (some ⟨g6, 0, none⟩) (len A + 1) cap6) = w12 at *
                clear hlsn s0 s1 s2 v0 v1 v2 q0 q1 q2 t0 t1 t2 hr6 hA6 hbk6 hkp6 bt10 bt11 hsl5 hrd10 hk10
                go_wp2_with fail
                go_roundg ((shpL 5).length - (pos + 1))
                case measure => omega
                case rel => exact ⟨pos + 1, snoc A X5.1, X5.2.1, X5.2.2, some ⟨g6, 0, none⟩, cap6, hlt, rfl, by rw [len_snoc, HLA.out], hit12.out, HXb, hpl5, rd12, bx12, bt12, hA12, hz12, hk12⟩
            · have td8 : decide ((8 : Int) < (ms.length : Int)) = false := by simp; omega
              have HE3 : Hid ((if 8 < ms.length then failE E2 5 else E2) = E2) := by rw [if_neg h8]; rfl
              have bx8 := bx7
              have bt8 := bt7
              have hA8 := hA7
              have hit8 := hit7
              have hk78 := hk7
              have hS8 := hS7
              have hD8 := hD7
              have hrd8 := hrd2
              clear hA7 bx7 bt7 hrd2 hit7 hS7 hD7 hk7
              have HXb : Hid (argsS (termS ds n) ((shpL 5).drop (pos + 1)) (snoc A (termS ds n ms l2 E2).1) ns (termS ds n ms l2 E2).2.1 (termS ds n ms l2 E2).2.2 = X) := by
                have h0 := HXa.out
                rw [argsS, HC.out, show 48 + m - 48 = m by omega, HY.out, HYe.out] at h0
                dsimp only at h0
                rw [HE3.out] at h0
                exact h0
              have hpl5 := termS_plain ds n ms l2 E2 hpl2
              obtain ⟨X5, hX5⟩ : ∃ X5, termS ds n ms l2 E2 = X5 := ⟨_, rfl⟩
              have HX5 : Hid (termS ds n ms l2 E2 = X5) := hX5
              rw [hX5] at HXb hpl5
              clear hX5
              have hcall : Calls Tryd.prog 53 #[.pointer (some ⟨r, 0, none⟩), .slice p2 ms.length c2, .int .i64 (25 - (n : Int))] wr.drew fun x w' => (∃ v, x = .returned v ∧ Tm wr.drew.heap.size w' v X5.1) ∧ Rd w' r X5.2.1 (.slice pd ds.length cd) X5.2.2 ∧ Kept r wr.drew w' := by
                rw [← HX5.out]
                exact H wr.drew r l2 E2 ms p2 c2 (hrd8.of_block rfl) (hS8.kept (Kept.drew r wr)) (hD8.kept (Kept.drew r wr)) hcap hpl2 (by have h1 := Hml.out; have h2 := Him.out; omega) (by omega)
              have HC5 : Hid (Calls Tryd.prog 53 #[.pointer (some ⟨r, 0, none⟩), .slice p2 ms.length c2, .int .i64 (25 - (n : Int))] wr.drew fun x w' => (∃ v, x = .returned v ∧ Tm wr.drew.heap.size w' v X5.1) ∧ Rd w' r X5.2.1 (.slice pd ds.length cd) X5.2.2 ∧ Kept r wr.drew w') := hcall
              clear hcall
              obtain ⟨z0, z1, z2, y0, y1, y2⟩ := bt8.facts
              have lb8 := bt8.lt
              have hown8 : ∀ k, (Value.slice pv (len A) cv).ownBlock = some k → w5.heap.size + 1 ≤ k ∧ k < wr.heap.size := by
                obtain ⟨xs, ho, _⟩ := hA8
                exact ho.lt
              go_wp2_with fail
              go_region_law (first
                  | (refine step_append_run rfl _ _ 22 rfl _ _ _ rfl rfl hr6 ?_)
                  | (go_simp; go_at_call 53; rw [wrapI (24 - (n : Int) + 1) (by omega) (by omega), show (24 : Int) - (n : Int) + 1 = 25 - (n : Int) by omega]; refine HC5.out.mono ?_; rintro e w10 ⟨⟨v, rfl, p5, c5, rfl, hsl5⟩, hrd10, hk10⟩; obtain ⟨bt10, g6, cap6, w11, hr6, hA6, hbk6, hkp6, hz6⟩ := step26 (c5 := c5) (x := X5.1) lb8 (by omega) bt8 hA8 hown8 hsl5 hk10 hlA2 (by omega); obtain ⟨q0, q1, q2, t0, t1, t2⟩ := bt10.facts; have lb10 := bt10.lt; have bt11 := bt10.of_block (hbk6 _ (by omega)); obtain ⟨s0, s1, s2, v0, v1, v2⟩ := bt11.facts))
              all_goals
                have hlsn : len (snoc A X5.1) = len A + 1 := len_snoc A X5.1
                have rd12 : Rd (w11.setCell ⟨w1.heap.size, 2, none⟩ (.slice (some ⟨g6, 0, none⟩) (len A + 1) cap6)) r X5.2.1 (.slice pd ds.length cd) X5.2.2 := hrd10.of_block (by rw [Below.heap_setCell _ _ _ _ (by show r ≠ w1.heap.size; omega)]; exact hbk6 r (by omega))
                have bx12 : Box (w11.setCell ⟨w1.heap.size, 2, none⟩ (.slice (some ⟨g6, 0, none⟩) (len A + 1) cap6)) w.heap.size (.int .i64 0) (.int .i64 0) (.slice none 0 0) := ((hk10.box (w := wr.drew) (by omega) (bx8.of_block rfl)).of_block (hbk6 _ (by omega))).setOther (by show w.heap.size ≠ w1.heap.size; omega) _
                have bt12 : Box (w11.setCell ⟨w1.heap.size, 2, none⟩ (.slice (some ⟨g6, 0, none⟩) (len A + 1) cap6)) w1.heap.size (.int .i64 5) (.int .i64 0) (.slice (some ⟨g6, 0, none⟩) (len (snoc A X5.1)) cap6) := by rw [hlsn]; exact bt11.set2 _
                have hA12 : ArgsIn (w5.heap.size + 1) (w11.setCell ⟨w1.heap.size, 2, none⟩ (.slice (some ⟨g6, 0, none⟩) (len A + 1) cap6)) (.slice (some ⟨g6, 0, none⟩) (len (snoc A X5.1)) cap6) (snoc A X5.1) := by
                  rw [hlsn]
                  exact hA6.along fun b hb _ => Below.heap_setCell _ _ _ _ (by show b ≠ w1.heap.size; omega)
                have hit12 : Hid ((w11.setCell ⟨w1.heap.size, 2, none⟩ (.slice (some ⟨g6, 0, none⟩) (len A + 1) cap6)).heap[w5.heap.size]? = some (.stringIter ⟨(shpL 5).toArray⟩ (pos + 1))) := by
                  show _ = _
                  rw [Below.heap_setCell _ _ _ _ (by show w5.heap.size ≠ w1.heap.size; omega), hbk6 _ (by omega), hk10.block _ (by show w5.heap.size < wr.heap.size; omega) (by omega)]
                  exact hit8.out
                have hk12 : Kept r w (w11.setCell ⟨w1.heap.size, 2, none⟩ (.slice (some ⟨g6, 0, none⟩) (len A + 1) cap6)) := (hkp6 w hk78 (by omega)).setNew (by show w.heap.size ≤ w1.heap.size; omega) _
                have hz12 : w5.heap.size + 1 ≤ (w11.setCell ⟨w1.heap.size, 2, none⟩ (.slice (some ⟨g6, 0, none⟩) (len A + 1) cap6)).heap.size := by simpa [World.setCell] using hz6
                generalize w11.setCell ⟨w1.heap.size, 2, none⟩ (.slice (some ⟨g6, 0, none⟩) (len A + 1) cap6) = w12 at *
                clear hlsn s0 s1 s2 v0 v1 v2 q0 q1 q2 t0 t1 t2 hr6 hA6 hbk6 hkp6 bt10 bt11 hsl5 hrd10 hk10
                go_wp2_with fail
                go_roundg ((shpL 5).length - (pos + 1))
                case measure => omega
                case rel => exact ⟨pos + 1, snoc A X5.1, X5.2.1, X5.2.2, some ⟨g6, 0, none⟩, cap6, hlt, rfl, by rw [len_snoc, HLA.out], hit12.out, HXb, hpl5, rd12, bx12, bt12, hA12, hz12, hk12⟩
      · obtain rfl : pos = (shpL 5).length := by omega
        have hXe : X = (A, l', E') := by
          have h0 := hX'.out
          rw [List.drop_length, argsS] at h0
          exact h0.symm
        have HXe : Hid (X = (A, l', E')) := hXe
        clear hXe hX' HX
        have hnx := next_none wr w5.heap.size (shpL 5).length ⟨(shpL 5).toArray⟩ hit (by simp [ByteArray.size])
        have HLA : Hid (len A = (shpL 5).length) := hlA
        clear hlA hit
        go_wp2_with fail
        clear hnx
        refine (w_any wr r l' _ E' hrd (by have := hpl'.2; omega)).mono ?_
        rintro e w7 ⟨rfl, hrd7, hk7⟩
        have bx7 := hk7.box (by omega) hbx
        have bt7 := hk7.box (by omega) hbt
        have hA7 : ArgsIn (w5.heap.size + 1) w7 (.slice pv (len A) cv) A := hAI.along fun b hb hb2 => hk7.block b hb2 (by omega)
        have hk77 := hk.trans hk7
        clear hbx hbt hAI hrd hk hk7
        have HT2 : Hid (termS ds (n + 1) ns l E = ((5, 0, A), restW l', tailE l' E')) := by
          rw [HT.out, HK.out.1, HXe.out]
          rfl
        by_cases h41 : peekW l' = [41]
        · have t41 : (peekW l' == [41]) = true := by simpa using h41
          have HE4 : Hid (tailE l' E' = wE l' E') := by unfold tailE; rw [if_pos h41]; rfl
          clear h41
          obtain ⟨x0, x1, x2, y0, y1, y2⟩ := bx7.facts
          obtain ⟨z0, z1, z2, _, _, _⟩ := bt7.facts
          go_wp2_with fail
          obtain ⟨d0, d1, d2, _, _, _⟩ := (bx7.set (.int .i64 5) (.int .i64 0) (.slice pv (len A) cv)).facts
          refine bodyPost_ret (v := .agg #[.int .i64 5, .int .i64 0, .slice pv (len A) cv]) (by simp [results, Tryd.results53, go_sem, d0, d1, d2]) rfl ⟨⟨_, rfl, pv, cv, by rw [HT2.out], ?_⟩, ?_, ?_⟩
          · rw [HT2.out]
            exact (((hA7.slF.setCell (by show w.heap.size < _; omega) _).setCell (by show w.heap.size < _; omega) _).setCell (by show w.heap.size < _; omega) _).mono (by omega)
          · rw [HT2.out, HE4.out]
            exact hrd7.of_block (by rw [Below.heap_setCell _ _ _ _ hrz, Below.heap_setCell _ _ _ _ hrz, Below.heap_setCell _ _ _ _ hrz])
          · exact ((hk77.setNew (Nat.le_refl _) _).setNew (Nat.le_refl _) _).setNew (Nat.le_refl _) _
        · have t41 : (peekW l' == [41]) = false := by simpa using h41
          have HE4 : Hid (tailE l' E' = failE (wE l' E') 2) := by unfold tailE; rw [if_neg h41]; rfl
          clear h41
          go_wp2_with fail
          refine (fail_any w7 r (restW l') _ (wE l' E') 2 hrd7).mono ?_
          rintro e w8 ⟨rfl, hrd8, hk8⟩
          have bx8 := hk8.box (by omega) bx7
          have bt8 := hk8.box (by omega) bt7
          have hA8 : ArgsIn (w5.heap.size + 1) w8 (.slice pv (len A) cv) A := hA7.along fun b hb hb2 => hk8.block b hb2 (by omega)
          have hk78 := hk77.trans hk8
          clear bx7 bt7 hA7 hrd7 hk77
          obtain ⟨x0, x1, x2, y0, y1, y2⟩ := bx8.facts
          obtain ⟨z0, z1, z2, _, _, _⟩ := bt8.facts
          go_wp2_with fail
          obtain ⟨d0, d1, d2, _, _, _⟩ := (bx8.set (.int .i64 5) (.int .i64 0) (.slice pv (len A) cv)).facts
          refine bodyPost_ret (v := .agg #[.int .i64 5, .int .i64 0, .slice pv (len A) cv]) (by simp [results, Tryd.results53, go_sem, d0, d1, d2]) rfl ⟨⟨_, rfl, pv, cv, by rw [HT2.out], ?_⟩, ?_, ?_⟩
          · rw [HT2.out]
            exact (((hA8.slF.setCell (by show w.heap.size < _; omega) _).setCell (by show w.heap.size < _; omega) _).setCell (by show w.heap.size < _; omega) _).mono (by omega)
          · rw [HT2.out, HE4.out]
            exact hrd8.of_block (by rw [Below.heap_setCell _ _ _ _ hrz, Below.heap_setCell _ _ _ _ hrz, Below.heap_setCell _ _ _ _ hrz])
          · exact ((hk78.setNew (Nat.le_refl _) _).setNew (Nat.le_refl _) _).setNew (Nat.le_refl _) _
end Go.Proofs.YtcgpjihfligdbaaDoor
