/-
  Contracts of package book: Load.
-/
/-
  Load's premises, by reckoning.
-/
import Derived.Test.YthfjmcomhccbaaaGreatDoorBK8m
namespace Go.Proofs.YthfjmcomhccbaaaGreatDoor
open Go.RowKit Tmx Evx
set_option maxRecDepth 60000
attribute [local go_sem] Oper.semAt_some

theorem DlIn.keep {lo : Nat} {w w' : World} {v : Value} {l : List Dcl} (h : DlIn lo w v l) (hs : w.heap.size ≤ w'.heap.size) (hk : ∀ b, lo ≤ b → b < w.heap.size → w'.heap[b]? = w.heap[b]?) : DlIn lo w' v l := by
  obtain ⟨xs, g1, g2⟩ := h
  have hown : ∀ {b : Nat}, v.ownBlock = some b → lo ≤ b ∧ b < w.heap.size := fun {b} e => DlIn.lt (l := l) ⟨xs, g1, g2⟩ e
  exact ⟨xs, ownsRow_keep g1 fun b e => hk b (hown e).1 (hown e).2, g2.map fun {q f} hs' => hs'.along (fun b h => ⟨h.1, Nat.lt_of_lt_of_le h.2 hs⟩) fun b h => hk b h.1.1 h.2⟩
theorem ownsRow_form {w : World} {lo sz n : Nat} {e : TypeId} {v : Value} {xs : List Value} (h : w.ownsRow lo e sz v n xs) : ∃ q c, v = .slice q n c := by
  obtain ⟨_, h2⟩ := h
  rcases h2 with ⟨rfl, h0⟩ | ⟨g, cap, cur, rfl, _⟩
  · exact ⟨none, 0, by rw [h0]⟩
  · exact ⟨_, _, rfl⟩
theorem okVs_snoc (n : Nat) : okVs n ++ [.int .i64 0, .int .i64 0] = okVs (n + 1) := by
  unfold okVs
  rw [show (n + 1) * 2 = n * 2 + 2 by omega]
  show List.replicate (n * 2) _ ++ List.replicate 2 _ = _
  rw [List.replicate_append_replicate]

set_option maxHeartbeats 8000000 in
theorem load_any (sg cf fu N : Nat) (R x : Nat → List UInt8) (ds : List Dcl) (s : List UInt8) (w : World) (hL : Loads sg cf fu N R x ds) (hs : R 0 = s) (hv : Vs w.heap.size w) :
    Calls Tryz.prog 11 #[.string ⟨s.toArray⟩] w fun e w' => (∃ v u, e = .returned (.tuple #[v, u]) ∧ DlIn w.heap.size w' v ds ∧ w'.ownsRow w.heap.size 40 2 u ds.length (okVs ds.length)) ∧ Below w.heap.size w w' := by
  have HH := (show Hid _ from And.intro hL (And.intro hs hv))
  clear hL hs hv
  refine (callsIn_wide (n := 5)).1 ?_
  refine callsIn_of_wp_marks Tryz.func11 rfl trivial ?_ rfl
  simp only [Tryz.ntmps11, List.size_toArray, List.length_cons, List.length_nil, Nat.reduceAdd, Nat.reduceSub, Array.replicate_succ, Array.replicate_zero, List.push_toArray, List.append_toArray, List.nil_append, List.cons_append]
  obtain ⟨W1, hW1⟩ : ∃ W1, (w.alloc (.cells #[.slice none 0 0] 23)).alloc (.cells #[.slice none 0 0] 35) = W1 := ⟨_, rfl⟩
  have hSp := SplitSeq_any s [10] W1
  gi_wp2
  refine ⟨trivial, ?_⟩
  refine (callsIn_wide.2 hSp).mono ?_
  rintro e w' ⟨rfl, rfl⟩
  obtain ⟨l1, l2, l3, l4, l5⟩ := laid3_of W1 s [10]
  obtain ⟨b1, k1, k2, z1⟩ : Below w.heap.size w W1 ∧ Blk W1 w.heap.size #[.slice none 0 0] 23 ∧ Blk W1 (w.heap.size + 1) #[.slice none 0 0] 35 ∧ W1.heap.size = w.heap.size + 2 := by
    rw [← hW1]
    refine ⟨((Below.refl _ _).alloc (Nat.le_refl _) _).alloc (by simp) _, (Blk.new w _ _).alloc _, ?_, by simp⟩
    have := Blk.new (w.alloc (.cells #[.slice none 0 0] 23)) #[.slice none 0 0] 35
    rw [World.size_alloc] at this
    exact this
  have HC0 : Car w (laid3 W1 s [10]).heap.size w.heap.size (w.heap.size + 1) ds 0 (laid3 W1 s [10]) :=
    ⟨b1.trans (l1.mono b1.size), Nat.le_refl _, _, _, k1.below l1, k2.below l1, by rw [List.take_zero]; exact DlIn.nil _ _, by rw [List.take_zero]; exact World.ownsRow_nil _ _ _ _⟩
  have H0 := (show Hid _ from And.intro HC0 (And.intro l2 (And.intro l3 (And.intro l4 (And.intro l5 z1)))))
  clear hSp l1 l2 l3 l4 b1 k1 k2 HC0 hW1
  generalize laid3 W1 s [10] = W2 at *
  gi_wp2
  have HLO : Hid (W2.heap.size = w.heap.size + 5) := by show _ = _; omega
  clear l5
  rw [z1] at *
  clear z1
  refine range_own (gf := 37) rfl (enters_of Tryz.func37 (by kernel_rfl) rfl) (fun k => #[.string ⟨(x k).toArray⟩]) (fun _ => rfl) N
    (fun k j W => Mid (Car w W2.heap.size w.heap.size (w.heap.size + 1) ds) R (w.heap.size + 2) (w.heap.size + 2 + 1) (w.heap.size + 2 + 2) k j W) ?hM ?h0
    (fun k => { tmps := #[.string ⟨s.toArray⟩, undef, .slice none 0 0, .slice none 0 0, .pointer (some ⟨w.heap.size, 0, none⟩), .pointer (some ⟨w.heap.size + 1, 0, none⟩), .string ⟨(x k).toArray⟩, undef, .string ⟨s.toArray⟩,
      .func (.func 37) #[] #[.pointer (some ⟨w.heap.size + 2 + 1, 0, none⟩), .pointer (some ⟨w.heap.size + 2, 0, none⟩), .pointer (some ⟨w.heap.size + 2 + 2, 0, none⟩)], .string ⟨(x k).toArray⟩, undef, undef, undef, undef, undef, undef, undef, undef, undef, undef, undef, undef, undef, undef], defers := [] })
    ?hassign ?hbody ?hiter ?hdone
  case hM =>
    rintro k j W l o o' ⟨m1, m2, m3, m4⟩ hl ho hn
    have hlo := HLO.out
    have hoth : ∀ b, b ≠ l → (W.putObj l o').heap[b]? = W.heap[b]? := fun b hb => World.putObj_heap_other hb
    refine ⟨Car.other (B := l) m1 ⟨rfl, rfl, rfl⟩ (by simp [World.putObj]) (fun b _ hb => hoth b hb) (by omega) (by omega) (by omega) (.inr ⟨o, ho, hn⟩), m2.of_eq (hoth _ (by omega)), m3.of_eq (hoth _ (by omega)), m4.of_eq (hoth _ (by omega))⟩
  case h0 =>
    intro o1 o2
    have hlo := HLO.out
    have hb : Below W2.heap.size W2 ((W2.alloc o1).alloc o2) := ((Below.refl _ _).alloc (Nat.le_refl _) _).alloc (by simp) _
    refine ⟨Car.other (B := w.heap.size + 2) H0.out.1 ⟨hb.os, hb.tape, hb.output⟩ hb.size (fun b hbl _ => hb.block b hbl) (by omega) (by omega) (by omega) (.inl (by omega)), ?_, H0.out.2.2.1.below hb, H0.out.2.2.2.1.below hb⟩
    have := H0.out.2.1.below hb
    rw [HH.out.2.1]
    exact this
  case hassign =>
    intro l k W K hK
    gi_wp2
    exact hK
  case hbody =>
    rintro l k W ⟨⟨n1, n2, v, u, n3, n4, n5, n6⟩, m2, m3, m4⟩ hk
    by_cases hx : x k = []
    · have hd := HH.out.1.none k hk hx
      have ht : ds.take (k + 1) = ds.take k := by rw [List.take_of_length_le (by omega), List.take_of_length_le (by omega)]
      have HF := (show Hid (Mid (Car w W2.heap.size w.heap.size (w.heap.size + 1) ds) R (w.heap.size + 2) (w.heap.size + 2 + 1) (w.heap.size + 2 + 2) (k + 1) k W) from ⟨⟨n1, n2, v, u, n3, n4, by rw [ht]; exact n5, by rw [ht]; exact n6⟩, m2, m3, m4⟩)
      rw [hx]
      gi_wp2
      exact ⟨KeepsOthers.refl _, HF.out⟩
    · obtain ⟨d, A, B, hd, hRd, hFit⟩ := HH.out.1.take k hk hx
      have htk : ds.take (k + 1) = ds.take k ++ [d] := by rw [List.take_add_one, hd]; rfl
      have hkl : (ds.take k).length = k := by rw [List.length_take]; have := (List.getElem?_eq_some_iff.1 hd).1; omega
      obtain ⟨p, cap, rfl, hcp⟩ := n5.form
      have tx : (x k == []) = false := by simpa using hx
      have hbv : Below W.heap.size W (W.alloc (.cells #[.int .i64 0, .int .i64 0] 40)) := (Below.refl _ _).alloc (Nat.le_refl _) _
      have vx := Blk.new W #[.int .i64 0, .int .i64 0] 40
      have HFur := bfurther_any sg cf fu (W.alloc (.cells #[.int .i64 0, .int .i64 0] 40)) p cap (ds.take k) (x k) d true A B ((n5.at).below hbv) hRd ((HH.out.2.2.up n1).up hbv) hFit (HH.out.1.small d (List.mem_of_getElem? hd)) (fun y hy => HH.out.1.small y (List.mem_of_mem_take hy))
      have HV := (show Hid _ from And.intro n1 (And.intro n2 (And.intro n3 (And.intro n4 (And.intro n5 (And.intro n6 (And.intro m2 (And.intro m3 (And.intro m4 (And.intro hbv vx)))))))))) 
      obtain ⟨t0, tf⟩ := (n3.below hbv).one
      rw [hkl] at HFur t0
      rw [show okE true = 0 from rfl] at HFur
      have hno := HV.out.2.2.2.2.2.1
      rw [hkl] at hno
      obtain ⟨q, cq, rfl⟩ := ownsRow_form hno
      have HNO := (show Hid _ from hno)
      clear hno
      clear hRd hFit n1 n2 n3 n4 n6 m2 m3 m4 hbv vx hcp
      gi_wp2
      refine ⟨trivial, ?_⟩
      refine (CallsIn.inRound l (callsIn_wide.2 HFur)).mono ?_
      rintro e w5 ⟨v', rfl, hD5, hb5⟩
      have hb5' : Below W.heap.size W w5 := HV.out.2.2.2.2.2.2.2.2.2.1.trans (hb5.mono HV.out.2.2.2.2.2.2.2.2.2.1.size)
      obtain ⟨p5, c5, rfl, _⟩ := hD5.form
      obtain ⟨y0, yf⟩ := (HV.out.2.2.1.below hb5').one
      obtain ⟨u0, uf⟩ := (HV.out.2.2.2.1.below hb5').one
      obtain ⟨v0, v1, vf0, vf1⟩ := (Blk.below (w := World.alloc W _) HV.out.2.2.2.2.2.2.2.2.2.2 hb5).two
      have H5 := (show Hid _ from And.intro hD5 (And.intro hb5 hb5'))
      have hlo := HLO.out
      have hWl := HV.out.2.1
      have ne1 : W.heap.size ≠ w.heap.size := by omega
      have ne2 : w.heap.size ≠ W.heap.size := by omega
      have ne3 : W.heap.size ≠ w.heap.size + 1 := by omega
      have ne4 : w.heap.size + 1 ≠ W.heap.size := by omega
      have ne5 : w.heap.size + 1 ≠ w.heap.size := by omega
      have ne6 : w.heap.size ≠ w.heap.size + 1 := by omega
      clear HFur hD5 hb5 hb5' t0 tf hlo hWl
      obtain ⟨iv, hiv, hev⟩ := Option.map_eq_some_iff.1 iVd
      simp only [Prod.mk.injEq] at hev
      obtain ⟨hvz, hvs, hvb⟩ := hev
      have hlo := HLO.out
      have hWl := HV.out.2.1
      have hkN : k < 1000 := by have := HH.out.1.few; omega
      have hownu : ∀ b, (Value.slice q k cq).ownBlock = some b → W2.heap.size ≤ b ∧ b < W.heap.size := fun b e => (show W.ownsRow W2.heap.size 40 2 (.slice q k cq) k (okVs k) from HNO.out).lt b e
      have hR8 : ((((w5.setCell ⟨w.heap.size, 0, none⟩ (.slice p5 (k + 1) c5)).setCell ⟨W.heap.size, 0, none⟩ (.int .i64 0)).setCell ⟨W.heap.size, 1, none⟩ (.int .i64 0)).alloc (.cells #[.int .i64 0, .int .i64 0] 40)).ownsRow W2.heap.size 40 2 (.slice q k cq) k (okVs k) := ownsRow_keep HNO.out fun b e => by
        have hb := hownu b e
        have hz := H5.out.2.2.size
        rw [Below.heap_alloc _ _ _ (by simp [World.setCell]; omega), Below.heap_setCell _ _ _ _ (by show b ≠ W.heap.size; omega), Below.heap_setCell _ _ _ _ (by show b ≠ W.heap.size; omega), Below.heap_setCell _ _ _ _ (by show b ≠ w.heap.size; omega)]
        exact H5.out.2.2.block b hb.2
      have hn8 : ∀ i u, [Value.int .i64 0, .int .i64 0][i]? = some u → ((((w5.setCell ⟨w.heap.size, 0, none⟩ (.slice p5 (k + 1) c5)).setCell ⟨W.heap.size, 0, none⟩ (.int .i64 0)).setCell ⟨W.heap.size, 1, none⟩ (.int .i64 0)).alloc (.cells #[.int .i64 0, .int .i64 0] 40)).cell? ((⟨w5.heap.size, 0, none⟩ : Addr).add i) = some u := by
        have hB8 : ((((w5.setCell ⟨w.heap.size, 0, none⟩ (.slice p5 (k + 1) c5)).setCell ⟨W.heap.size, 0, none⟩ (.int .i64 0)).setCell ⟨W.heap.size, 1, none⟩ (.int .i64 0)).alloc (.cells #[.int .i64 0, .int .i64 0] 40)).heap[w5.heap.size]? = some (.cells #[.int .i64 0, .int .i64 0] 40 (0, 0)) := by
          have := heap_alloc_new (((w5.setCell ⟨w.heap.size, 0, none⟩ (.slice p5 (k + 1) c5)).setCell ⟨W.heap.size, 0, none⟩ (.int .i64 0)).setCell ⟨W.heap.size, 1, none⟩ (.int .i64 0)) (.cells #[.int .i64 0, .int .i64 0] 40)
          simpa [World.setCell] using this
        exact World.news_of_block hB8
      have hblk8 : ∀ b, b < w5.heap.size → b ≠ w.heap.size → b ≠ W.heap.size → ((((w5.setCell ⟨w.heap.size, 0, none⟩ (.slice p5 (k + 1) c5)).setCell ⟨W.heap.size, 0, none⟩ (.int .i64 0)).setCell ⟨W.heap.size, 1, none⟩ (.int .i64 0)).alloc (.cells #[.int .i64 0, .int .i64 0] 40)).heap[b]? = w5.heap[b]? := fun b hb h1 h2 => by
        rw [Below.heap_alloc _ _ _ (by simpa [World.setCell] using hb), Below.heap_setCell _ _ _ _ (by show b ≠ W.heap.size; exact h2), Below.heap_setCell _ _ _ _ (by show b ≠ W.heap.size; exact h2), Below.heap_setCell _ _ _ _ (by show b ≠ w.heap.size; exact h1)]
      have hsz8 : ((((w5.setCell ⟨w.heap.size, 0, none⟩ (.slice p5 (k + 1) c5)).setCell ⟨W.heap.size, 0, none⟩ (.int .i64 0)).setCell ⟨W.heap.size, 1, none⟩ (.int .i64 0)).alloc (.cells #[.int .i64 0, .int .i64 0] 40)).heap.size = w5.heap.size + 1 := by simp [World.setCell]
      have HB8 := (show Hid _ from And.intro hblk8 (And.intro hsz8 (And.intro hownu hWl)))
      have hvk5 := (HV.out.2.2.2.1.below H5.out.2.2)
      have hvkl := hvk5.lt
      have hvk8 := hvk5.of_eq (hblk8 _ hvkl (by omega) (by omega))
      have HVK := (show Hid _ from And.intro hvk8 hvkl)
      have hz8 : W2.heap.size ≤ ((((w5.setCell ⟨w.heap.size, 0, none⟩ (.slice p5 (k + 1) c5)).setCell ⟨W.heap.size, 0, none⟩ (.int .i64 0)).setCell ⟨W.heap.size, 1, none⟩ (.int .i64 0)).alloc (.cells #[.int .i64 0, .int .i64 0] 40)).heap.size := by have := H5.out.2.2.size; simp [World.setCell]; omega
      clear hlo hWl hblk8 hsz8 hvk5 hvk8 hvkl
      gi_wp2_with (first | (gi_at_builtin; refine wpListIn_append_own _ rfl _ _ 35 rfl W2.heap.size 40 iv _ 2 16 uVds hiv hvz hvs hvb rfl (by decide) _ k (okVs k) rfl hR8 ⟨w5.heap.size, 0, none⟩ 1 1 [.int .i64 0, .int .i64 0] rfl rfl hn8 (by simp [Value.oneCell']) (by simp only [maxLen]; omega) (by omega) hz8 ?_; intro u' w9 hown9 hgrow9 _; obtain ⟨g9, cap9, rfl⟩ := ownsRow_succ hown9; have hvk9 : Blk w9 (w.heap.size + 1) #[.slice q k cq] 35 := Blk.of_eq (w := ((((w5.setCell ⟨w.heap.size, 0, none⟩ (.slice p5 (k + 1) c5)).setCell ⟨W.heap.size, 0, none⟩ (.int .i64 0)).setCell ⟨W.heap.size, 1, none⟩ (.int .i64 0)).alloc (.cells #[.int .i64 0, .int .i64 0] 40))) HVK.out.1 (hgrow9.block _ (by have := HB8.out.2.1; have := HVK.out.2; omega) fun h => by have := (HB8.out.2.2.1 _ h.symm).1; have := HLO.out; omega); have HVK9 := (show Hid _ from And.intro hvk9 (And.intro hown9 hgrow9)); obtain ⟨f0, f1⟩ := hvk9.one; clear hvk9 hown9 hgrow9) | fail)
      obtain ⟨n1, n2, n3, n4, n5, n6, m2, m3, m4, hbv, vx⟩ := HV.out
      obtain ⟨hD5, hb5, hb5'⟩ := H5.out
      obtain ⟨hvk9, hown9, hgrow9⟩ := HVK9.out
      obtain ⟨hblk8, hsz8, hownu, hWl⟩ := HB8.out
      have hlo := HLO.out
      have hz5 := hb5'.size
      have hz9 := hgrow9.size
      have h9 : ∀ b, b < w5.heap.size → b ≠ w.heap.size → b ≠ W.heap.size → b ≠ w.heap.size + 1 → (Value.slice q k cq).ownBlock ≠ some b → (w9.setCell ⟨w.heap.size + 1, 0, none⟩ (.slice (some ⟨g9, 0, none⟩) (k + 1) cap9)).heap[b]? = w5.heap[b]? := fun b hb h1 h2 h3 h4 => by
        rw [Below.heap_setCell _ _ _ _ (by show b ≠ w.heap.size + 1; exact h3), hgrow9.block b (by omega) (fun e => h4 e.symm)]
        exact hblk8 b hb h1 h2
      have hW : ∀ b, b < W.heap.size → b ≠ w.heap.size → b ≠ w.heap.size + 1 → (Value.slice q k cq).ownBlock ≠ some b → (w9.setCell ⟨w.heap.size + 1, 0, none⟩ (.slice (some ⟨g9, 0, none⟩) (k + 1) cap9)).heap[b]? = W.heap[b]? := fun b hb h1 h3 h4 => by
        rw [h9 b (by omega) h1 (by omega) h3 h4]
        exact hb5'.block b hb
      have hnown : ∀ b, b < W2.heap.size → (Value.slice q k cq).ownBlock ≠ some b := fun b hb e => by have := (hownu b e).1; omega
      have hb8 : Below w.heap.size w ((((w5.setCell ⟨w.heap.size, 0, none⟩ (.slice p5 (k + 1) c5)).setCell ⟨W.heap.size, 0, none⟩ (.int .i64 0)).setCell ⟨W.heap.size, 1, none⟩ (.int .i64 0)).alloc (.cells #[.int .i64 0, .int .i64 0] 40)) := ((((n1.trans (hb5'.mono n1.size)).setCell (by show w.heap.size ≤ w.heap.size; omega) _).setCell (by show w.heap.size ≤ W.heap.size; omega) _).setCell (by show w.heap.size ≤ W.heap.size; omega) _).alloc (by have := n1.size; simp [World.setCell]; omega) _
      refine ⟨⟨by simp [World.setCell]; omega, fun b o hb ho => ?_⟩, ⟨(hb8.grown hgrow9 hb8.size (fun b e => by have := (hownu b e).1; omega)).setCell (by show w.heap.size ≤ w.heap.size + 1; omega) _, by simp [World.setCell]; omega, .slice p5 (k + 1) c5, .slice (some ⟨g9, 0, none⟩) (k + 1) cap9, ?_, hvk9.putOne _, ?_, ?_⟩, m2.of_eq (hW _ m2.lt (by omega) (by omega) (hnown _ (by omega))), m3.of_eq (hW _ m3.lt (by omega) (by omega) (hnown _ (by omega))), m4.of_eq (hW _ m4.lt (by omega) (by omega) (hnown _ (by omega)))⟩
      · rw [hW b (Array.getElem?_eq_some_iff.1 hb).1 (fun e => by rw [e, n3] at hb; cases hb; cases ho) (fun e => by rw [e, n4] at hb; cases hb; cases ho) (fun e => ?_)]
        · exact hb
        · have hno : W.ownsRow W2.heap.size 40 2 (.slice q k cq) k (okVs k) := HNO.out
          rcases hno.2 with ⟨e0, _⟩ | ⟨g, cap', cur, e0, _, hh, _⟩
          · rw [e0] at e; simp [Value.ownBlock] at e
          · have : g = b := by rw [e0] at e; simpa [Value.ownBlock] using e
            rw [← this, hh] at hb
            cases hb
            cases ho
      · refine Blk.of_eq (w := (w5.setCell ⟨w.heap.size, 0, none⟩ (.slice p5 (k + 1) c5))) ((n3.below hb5').putOne _) ?_
        have htl := (n3.below hb5').lt
        rw [Below.heap_setCell _ _ _ _ (by show w.heap.size ≠ w.heap.size + 1; omega), hgrow9.block w.heap.size (by omega) (fun e => hnown w.heap.size (by omega) e.symm), Below.heap_alloc _ _ _ (by simpa [World.setCell] using htl), Below.heap_setCell _ _ _ _ (by show w.heap.size ≠ W.heap.size; omega), Below.heap_setCell _ _ _ _ (by show w.heap.size ≠ W.heap.size; omega)]
      · rw [htk]
        have hzA : (W.alloc (.cells #[.int .i64 0, .int .i64 0] 40)).heap.size = W.heap.size + 1 := by simp
        have hk9 : DlIn (W.alloc (.cells #[.int .i64 0, .int .i64 0] 40)).heap.size (w9.setCell ⟨w.heap.size + 1, 0, none⟩ (.slice (some ⟨g9, 0, none⟩) (k + 1) cap9)) (.slice p5 (k + 1) c5) (ds.take k ++ [d]) := DlIn.keep (by have h := hD5; rw [if_pos trivial, List.length_append, hkl] at h; exact h) (w' := (w9.setCell ⟨w.heap.size + 1, 0, none⟩ (.slice (some ⟨g9, 0, none⟩) (k + 1) cap9))) (by simp [World.setCell]; omega) fun b h1 h2 => h9 b h2 (by omega) (by omega) (by omega) fun e => by have := (hownu b e).2; omega
        exact hk9.mono (by rw [hzA]; omega)
      · rw [htk, List.length_append, hkl, List.length_singleton, ← okVs_snoc]
        exact ownsRow_keep hown9 fun b e => Below.heap_setCell _ _ _ _ (by have := (hown9.lt b e).1; show b ≠ w.heap.size + 1; omega)
  case hiter =>
    intro l Rr W hRr hy h0 hr
    have hlo := HLO.out
    exact split_iter N R x HH.out.1.lines (Car w W2.heap.size w.heap.size (w.heap.size + 1) ds) (w.heap.size + 2) (w.heap.size + 2 + 1) (w.heap.size + 2 + 2) ⟨by omega, by omega⟩ (fun k W v h => Car.other (B := w.heap.size + 2) h ⟨rfl, rfl, rfl⟩ (by simp [World.setCell]) (fun b _ hb => Below.heap_setCell _ _ _ _ hb) (by omega) (by omega) (by omega) (.inl (by omega))) l Rr W hRr hy h0 hr
  case hdone =>
    rintro D j W hD ⟨hcar, _⟩ hK
    have hcar2 : Car w W2.heap.size w.heap.size (w.heap.size + 1) ds N (W.drew.putObj D (.deferred none)) := by
      have hlo := HLO.out
      exact Car.other (B := D) hcar ⟨rfl, rfl, rfl⟩ (by show W.heap.size ≤ (W.heap.setIfInBounds _ _).size; simp) (fun b _ hb => (World.putObj_heap_other (w := W.drew) hb).trans rfl) (by omega) (by omega) (by omega) (.inr ⟨_, hK, rfl⟩)
    have HF2 := (show Hid _ from And.intro hcar2 hD)
    clear hcar2
    obtain ⟨m1, m2, v, u, m3, m4, m5, m6⟩ := hcar
    rw [List.take_of_length_le HH.out.1.upto] at m5 m6
    obtain ⟨p5, c5, rfl, _⟩ := m5.form
    obtain ⟨q6, c6, rfl⟩ := ownsRow_form m6
    obtain ⟨x0, _⟩ := m3.one
    obtain ⟨y0, _⟩ := m4.one
    have HF := (show Hid _ from And.intro m3 m4)
    clear m1 m2 m3 m4 m5 m6 hD
    gi_wp2
    gi_region
    gi_wp2
    refine ⟨by simp, .inl ⟨_, _, rfl, run_takeDeferred (w := W.drew) hK, ?_⟩⟩
    refine ⟨.tuple #[.slice p5 ds.length c5, .slice q6 ds.length c6], by simp [results, Tryz.results11, go_sem], ?_⟩
    have hlo := HLO.out
    obtain ⟨⟨g1, g2, v2, u2, g3, g4, g5, g6⟩, hD⟩ := HF2.out
    have e1 : (W.drew.putObj D (.deferred none)).heap[w.heap.size]? = W.heap[w.heap.size]? := (World.putObj_heap_other (w := W.drew) (by omega)).trans rfl
    have e2 : (W.drew.putObj D (.deferred none)).heap[w.heap.size + 1]? = W.heap[w.heap.size + 1]? := (World.putObj_heap_other (w := W.drew) (by omega)).trans rfl
    have h1 := HF.out.1
    have h2 := HF.out.2
    unfold Blk at h1 h2 g3 g4
    rw [e1, h1] at g3
    rw [e2, h2] at g4
    obtain rfl : .slice p5 ds.length c5 = v2 := by simpa using g3
    obtain rfl : .slice q6 ds.length c6 = u2 := by simpa using g4
    rw [List.take_of_length_le HH.out.1.upto] at g5 g6
    refine ⟨⟨_, _, rfl, g5.mono (by omega), ?_⟩, g1⟩
    obtain ⟨a1, a2⟩ := g6
    refine ⟨a1, ?_⟩
    rcases a2 with a2 | ⟨g, cap, cur, e, hg, hr⟩
    · exact .inl a2
    · exact .inr ⟨g, cap, cur, e, by omega, hr⟩
end Go.Proofs.YthfjmcomhccbaaaGreatDoor

namespace Go.Proofs.YthfjmcomhccbaaaGreatDoor
open Go.RowKit Tmx Evx
set_option maxRecDepth 60000

def numsB : F → Bool
  | .nil => true
  | .node _ _ a l r => (!decide (a.1 = 1) || (decide (0 ≤ a.2) && decide (a.2 ≤ 1152921504606846976))) && (numsB l && numsB r)
theorem nums_of : ∀ (f : F), numsB f = true → nums f
  | .nil, _ => trivial
  | .node _ _ a l r, h => by
    simp only [numsB, Bool.and_eq_true, Bool.or_eq_true, Bool.not_eq_true', decide_eq_true_eq, decide_eq_false_iff_not] at h
    exact ⟨fun e => h.1.resolve_left (fun hn => hn e), nums_of l h.2.1, nums_of r h.2.2⟩
def beqF : F → F → Bool
  | .nil, .nil => true
  | .node b o a l r, .node b' o' a' l' r' => decide (b = b') && decide (o = o') && decide (a.1 = a'.1) && decide (a.2 = a'.2) && (beqF l l' && beqF r r')
  | _, _ => false
theorem beqF_eq : ∀ (f g : F), beqF f g = true → f = g
  | .nil, .nil, _ => rfl
  | .nil, .node _ _ _ _ _, h => by simp [beqF] at h
  | .node _ _ _ _ _, .nil, h => by simp [beqF] at h
  | .node b o a l r, .node b' o' a' l' r', h => by
    simp only [beqF, Bool.and_eq_true, decide_eq_true_eq] at h
    obtain ⟨⟨⟨⟨rfl, rfl⟩, h1⟩, h2⟩, h3, h4⟩ := h
    rw [beqF_eq l l' h3, beqF_eq r r' h4, show a = a' from Prod.ext h1 h2]
/-- A text of lines. -/
def joinR : List (List UInt8) → List UInt8
  | [] => []
  | [x] => x
  | x :: y :: r => x ++ 10 :: joinR (y :: r)
theorem joinR_cons (x : List UInt8) : ∀ (r : List (List UInt8)), r ≠ [] → joinR (x :: r) = x ++ 10 :: joinR r
  | [], h => absurd rfl h
  | _ :: _, _ => rfl
theorem joinR_drop : ∀ (all : List (List UInt8)) (j : Nat), (joinR (all.drop j)).length ≤ (joinR all).length
  | [], j => by simp
  | x :: r, 0 => by simp
  | x :: r, j + 1 => by
    rw [List.drop_succ_cons]
    refine Nat.le_trans (joinR_drop r j) ?_
    cases r with
    | nil => simp [joinR]
    | cons y r => rw [joinR_cons x (y :: r) (by simp)]; simp; omega
theorem lines_of (all : List (List UInt8)) (h0 : all ≠ []) (h10 : ∀ x, x ∈ all → (10 : UInt8) ∉ x) (hl : (joinR all).length ≤ 1000000) : Lines all.length (fun j => joinR (all.drop j)) (fun j => all.getD j []) := by
  have hp : 0 < all.length := List.length_pos_iff.2 h0
  refine ⟨hp, fun j hj => ?_, ?_, fun j hj => ?_, fun j _ => Nat.le_trans (joinR_drop all j) hl⟩
  · show joinR (all.drop j) = _
    rw [List.drop_eq_getElem_cons (by omega), joinR_cons _ _ (by simp; omega)]
    simp [List.getD_eq_getElem?_getD, List.getElem?_eq_getElem (show j < all.length by omega)]
  · show joinR (all.drop (all.length - 1)) = _
    rw [List.drop_eq_getElem_cons (by omega), show all.length - 1 + 1 = all.length by omega, List.drop_length]
    simp [joinR, List.getD_eq_getElem?_getD, List.getElem?_eq_getElem (show all.length - 1 < all.length by omega)]
  · have hj' : j < all.length := hj
    refine h10 _ ?_
    simp [List.getD_eq_getElem?_getD, List.getElem?_eq_getElem hj']
/-- Is that what was read? -/
def isTm (e : Except Int (Int × Int × F)) (t : Int × Int × F) : Bool := match e with
  | .ok x => decide (x.1 = t.1) && decide (x.2.1 = t.2.1) && beqF x.2.2 t.2.2
  | .error _ => false
theorem isTm_eq {e : Except Int (Int × Int × F)} {t : Int × Int × F} (h : isTm e t = true) : e = .ok t := by
  unfold isTm at h
  split at h
  · rename_i x
    simp only [Bool.and_eq_true, decide_eq_true_eq] at h
    obtain ⟨⟨h1, h2⟩, h3⟩ := h
    rw [show x = t from Prod.ext h1 (Prod.ext h2 (beqF_eq _ _ h3))]
  · cases h
/-- Does the text write d, where these names are declared? -/
def readsB (ns : List (List UInt8)) (s : List UInt8) (d : Dcl) : Bool :=
  match tk [] s with
  | a :: b :: nm :: rest =>
    match firstN 0 rest with
    | some k => decide (s.length ≤ 1500) && decide (a = [40]) && decide (b = [100, 101, 102]) && decide (nm = d.nm) && nameB nm && decide (rest.length ≤ 900000) &&
        decide (firstN 0 ((rest.drop k).dropLast) = some (rest.drop k).dropLast.length) && decide (rest.getLast? = some [41]) && decide (k + 1 ≤ rest.length) && decide (nm.length ≤ 1500) &&
        isTm (parseK ns [] (joinB (rest.take k))) d.T && isTm (parseK ns [] (joinB (rest.drop k).dropLast)) d.B
    | none => false
  | _ => false
theorem firstN_take : ∀ (ws : List (List UInt8)) (d : Int) (k : Nat), firstN d ws = some k → ∀ r, firstN d (ws.take k ++ r) = some k
  | [], _, _, h, _ => by simp [firstN] at h
  | x :: ws, d, k, h, r => by
    rw [firstN] at h
    split at h
    · rename_i h0
      cases h
      simp only [List.take_succ_cons, List.take_zero, List.cons_append, List.nil_append]
      rw [firstN, if_pos h0]
    · rename_i h0
      cases e : firstN (openI d x) ws with
      | none => rw [e] at h; simp at h
      | some m =>
        rw [e] at h
        simp only [Option.map_some, Option.some.injEq] at h
        subst h
        rw [List.take_succ_cons, List.cons_append, firstN, if_neg h0, firstN_take ws _ m e r]
        rfl
theorem reads_of {ns : List (List UInt8)} {s : List UInt8} {d : Dcl} (h : readsB ns s d = true) : ∃ A B, Reads ns s d A B := by
  unfold readsB at h
  split at h
  · rename_i a b nm rest hw
    split at h
    · rename_i k hk
      simp only [Bool.and_eq_true, decide_eq_true_eq] at h
      obtain ⟨⟨⟨⟨⟨⟨⟨⟨⟨⟨⟨h1, rfl⟩, rfl⟩, rfl⟩, h2⟩, h3⟩, h4⟩, h5⟩, h6⟩, h7⟩, h8⟩, h9⟩ := h
      have hne : rest.drop k ≠ [] := by
        intro e
        have := congrArg List.length e
        simp at this
        omega
      have hlast : (rest.drop k).dropLast ++ [[41]] = rest.drop k := by
        have h10 := List.dropLast_concat_getLast hne
        have h11 : (rest.drop k).getLast hne = [41] := by
          have h12 : rest.getLast? = some ((rest.drop k).getLast hne) := by
            rw [List.getLast_drop, List.getLast?_eq_some_getLast]
          rw [h5] at h12
          exact (Option.some.inj h12).symm
        rw [h11] at h10
        exact h10
      have hkl : (rest.take k).length = k := by rw [List.length_take]; omega
      refine ⟨rest.take k, (rest.drop k).dropLast, h1, ⟨?_, h2, ?_, h4⟩, isTm_eq h8, isTm_eq h9, h7, ?_⟩
      · rw [hw, List.append_assoc, hlast, List.take_append_drop]
      · rw [hkl]; exact firstN_take rest 0 k hk _
      · rw [hw]; simp; omega
    · cases h
  · cases h
def smallB (d : Dcl) : Bool := decide (size d.T.2.2 ≤ 1000000) && decide (size d.B.2.2 ≤ 1000000)
/-- Is d of its type, where those of l are declared? -/
def fitB (s cf fu : Nat) (l : List Dcl) (d : Dcl) (r : Bool) : Bool :=
  decide (cf ≤ 400000) && newB l d.nm && decide (l.length < 12) && l.all (fun x => !decide (x.T.1 = 1) && !decide (x.B.1 = 1)) && !decide (d.T.1 = 1) && !decide (d.B.1 = 1) && numsB d.T.2.2 && numsB d.B.2.2 &&
    decide (wrongT (l.length : Int) 0 d.T.1 d.T.2.1 d.T.2.2 = 0) && decide (wrongT (l.length : Int) 0 d.B.1 d.B.2.1 d.B.2.2 = 0) &&
    (sortV s (inferV s cf (l.map (·.B)) (l.map (·.T)) fu) [] d.T.1 d.T.2.1 d.T.2.2).isSome &&
    decide (checkRV s cf (inferV s cf (l.map (·.B)) (l.map (·.T)) fu) [] d.B.1 d.B.2.1 d.B.2.2 (hereV (l.map (·.B)) 0 d.T.1 d.T.2.1 d.T.2.2) = some r)
theorem fits_of {s cf fu : Nat} {l : List Dcl} {d : Dcl} {r : Bool} (h : fitB s cf fu l d r = true) : Fits s cf fu l d r := by
  unfold fitB at h
  simp only [Bool.and_eq_true, decide_eq_true_eq, Bool.not_eq_true', decide_eq_false_iff_not, List.all_eq_true] at h
  obtain ⟨⟨⟨⟨⟨⟨⟨⟨⟨⟨⟨h1, h2⟩, h3⟩, h4⟩, h5⟩, h6⟩, h7⟩, h8⟩, h9⟩, h10⟩, h11⟩, h12⟩ := h
  exact ⟨h1, h2, h3, h4, h5, h6, nums_of _ h7, nums_of _ h8, h9, h10, Option.isSome_iff_exists.1 h11, h12⟩
/-- Are all those lines taken, as ds? -/
def loadsB (s cf fu : Nat) (all : List (List UInt8)) (ds : List Dcl) : Bool :=
  !all.isEmpty && all.all (fun x => !x.contains 10) && decide ((joinR all).length ≤ 1000000) && decide (all.length ≤ 1000) && decide (ds.length ≤ all.length) && ds.all smallB &&
    (List.range all.length).all fun k => match all.getD k [] with
      | [] => decide (ds.length ≤ k)
      | c :: r => match ds[k]? with
        | some d => readsB ((ds.take k).map Dcl.nm) (c :: r) d && fitB s cf fu (ds.take k) d true
        | none => false
theorem loads_of {s cf fu : Nat} {all : List (List UInt8)} {ds : List Dcl} (h : loadsB s cf fu all ds = true) : Loads s cf fu all.length (fun j => joinR (all.drop j)) (fun j => all.getD j []) ds := by
  unfold loadsB at h
  simp only [Bool.and_eq_true, decide_eq_true_eq, Bool.not_eq_true', List.all_eq_true, List.mem_range] at h
  obtain ⟨⟨⟨⟨⟨⟨h1, h2⟩, h3⟩, h4⟩, h5⟩, h6⟩, h7⟩ := h
  refine ⟨lines_of all (by rintro rfl; simp at h1) (fun x hx hm => ?_) h3, h4, fun k hk hx => ?_, h5, fun k hk hx => ?_, fun d hd => ?_⟩
  · have := h2 x hx
    simp at this
    exact this hm
  · have := h7 k hk
    rw [show all.getD k [] = [] from hx] at this
    simpa using this
  · have := h7 k hk
    cases e : all.getD k [] with
    | nil => exact absurd e hx
    | cons c r =>
      rw [e] at this
      dsimp only at this
      cases e2 : ds[k]? with
      | none => rw [e2] at this; cases this
      | some d =>
        rw [e2] at this
        simp only [Bool.and_eq_true] at this
        obtain ⟨A, B, hR⟩ := reads_of this.1
        exact ⟨d, A, B, rfl, hR, fits_of this.2⟩
  · have := h6 d hd
    unfold smallB at this
    simpa [small] using this
end Go.Proofs.YthfjmcomhccbaaaGreatDoor
