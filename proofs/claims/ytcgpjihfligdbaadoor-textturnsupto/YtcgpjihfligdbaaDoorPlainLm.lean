/-
  How long a term's text is; how great a term of words is.
-/
/-
  The document's Bound: how many are bound at most.
-/
/-
  Names joined; a set of texts as a map to bools.
-/
import Derived.Test.YtcgpjihfligdbaaDoorPlainQ
import Derived.Test.YtcgpjihfligdbaaDoorPlainSm
import Derived.Test.YtcgpjihfligdbaaDoorX7
import Derived.Test.YtcgpjihfligdbaaDoorW5
import Derived.Test.YtcgpjihfligdbaaDoorP4
import Derived.Deep.RegionLaw
import Derived.Test.YtcgpjihfligdbaaDoorW16U
import Derived.Test.YtcgpjihfligdbaaDoorPlainPm
import Derived.Maps.Own
import Derived.Maps.Views
namespace Go.Proofs.YtcgpjihfligdbaaDoor
open Go.Deep Tmx
set_option maxRecDepth 60000

theorem namesK_rest : ∀ (m : Nat) (ns ts : List (List UInt8)) (p : List (List UInt8) × List (List UInt8)), namesK m ns ts = .ok p → p.2.length ≤ ts.length
  | m, ns, ts, p, h => (namesK_suf m ns ts p h).length_le
theorem size_snoc : ∀ (A : F) (x : Int × Int × F), size (snoc A x) = size A + (size x.2.2 + 1)
  | .nil, x => by simp [snoc, size]
  | .node _ _ a l r, x => by
    rw [snoc, size, size, size_snoc r x]
    omega
/-- A term of words is no greater than they are many. -/
theorem argsK_size {T : List (List UInt8) → List (List UInt8) → GotK} (hT : ∀ ns ws x r, T ns ws = .ok (x, r) → size x.2.2 + 1 + r.length ≤ ws.length) : ∀ (sh : List UInt8) (A : F) (ns ws : List (List UInt8)) (B : F) (r : List (List UInt8)), argsK T sh A ns ws = .ok (B, r) → size B + r.length ≤ size A + ws.length
  | [], _, _, _, _, _, h => by rw [argsK] at h; cases h; exact Nat.le_refl _
  | c :: sh, A, ns, ws, B, r, h => by
    rw [argsK_cons] at h
    cases hN : argK T (c.toNat - 48) ns ws with
    | error y => rw [hN, andX_error] at h; cases h
    | ok p =>
      rw [hN, andX_ok] at h
      have h1 := argsK_size hT sh _ _ _ _ _ h
      rw [size_snoc] at h1
      unfold argK at hN
      cases hM : namesK (c.toNat - 48) ns ws with
      | error y => rw [hM, andX_error] at hN; cases hN
      | ok q =>
        rw [hM, andX_ok] at hN
        have h2 := namesK_rest _ _ _ _ hM
        split at hN
        · cases hN
        · have h3 := hT _ _ p.1 p.2 hN
          omega
theorem termK_size (ds : List (List UInt8)) : ∀ (n : Nat) (ns ws : List (List UInt8)) (x : Int × Int × F) (r : List (List UInt8)), termK ds n ns ws = .ok (x, r) → size x.2.2 + 1 + r.length ≤ ws.length
  | 0, _, _, _, _, h => by rw [termK] at h; cases h
  | n + 1, _, [], _, _, h => by rw [termK] at h; cases h
  | n + 1, ns, a :: ws, x, r, h => by
    rw [termK] at h
    split at h
    · cases hA : argsK (termK ds n) (shpL (headKT ws)) .nil ns (headTT ws) with
      | error y => rw [hA] at h; cases h
      | ok p =>
        obtain ⟨B, us⟩ := p
        have h1 := argsK_size (termK_size ds n) _ _ _ _ _ _ hA
        have h2 := (headTT_suf ws).length_le
        rw [hA] at h
        cases us with
        | nil => cases h
        | cons u us =>
          rw [closeK] at h
          split at h
          · cases h
            simp [size] at h1 ⊢
            omega
          · cases h
    · unfold atomK at h
      split at h
      · rename_i h0
        cases h
        have h2 := (atom_right (deep := 1) (by omega) (Prod.ext rfl h0 : atomS ns ds a 0 = ((atomS ns ds a 0).1, 0))).2
        rw [h2]
        simp [size]
        omega
      · cases h
theorem tk_len : ∀ (l a : List UInt8), (tk a l).length ≤ l.length + a.length
  | [], a => by
    rw [tk]
    unfold flush
    split
    · simp
    · rename_i h
      have := List.length_pos_iff.2 h
      simp
      omega
  | c :: r, a => by
    have hf : (flush a).length ≤ a.length := by
      unfold flush
      split
      · simp
      · rename_i h
        have := List.length_pos_iff.2 h
        simp
        omega
    rw [tk_cons]
    split
    · have := tk_len r []
      simp at this ⊢
      omega
    · split
      · have := tk_len r []
        simp at this ⊢
        omega
      · have := tk_len r (a ++ [c])
        simp at this ⊢
        omega

/-- Names are not long. -/
def Brief (ns : List (List UInt8)) : Prop := ∀ x ∈ ns, x.length ≤ 8
theorem Brief.adds {ns : List (List UInt8)} (h : Brief ns) (m i : Nat) : Brief (ns ++ xsOf m i) := by
  intro x hx
  rcases List.mem_append.1 hx with h1 | h1
  · exact h x h1
  · clear hx
    induction m generalizing i with
    | zero => simp [xsOf] at h1
    | succ m ih =>
      rw [xsOf] at h1
      rcases List.mem_cons.1 h1 with rfl | h2
      · simp [xname]
      · exact ih (i + 1) h2
theorem Brief.getD {ns : List (List UInt8)} (h : Brief ns) (i : Nat) : (ns.getD i []).length ≤ 8 := by
  rw [List.getD_eq_getElem?_getD]
  cases e : ns[i]? with
  | none => simp
  | some x => exact h x (List.mem_of_getElem? e)
theorem tab_wl : ∀ K : Fin 19, (wordL K.val).length ≤ 6 := by decide
theorem atomP_len {ds ns : List (List UInt8)} (hd : Brief ds) (hn : Brief ns) {k n deep : Int} {f : F} (hl : lookT ds.length ns.length deep k n f = 0) : (atomP ds ns k n).length ≤ 8 := by
  obtain ⟨hk, _, h0, h1, _, _⟩ := lookT_args hl
  unfold atomP
  split
  · exact hn.getD _
  · split
    · exact hd.getD _
    · split
      · rename_i h2
        subst h2
        have h4 : n < 4 := h1
        obtain ⟨N, rfl⟩ : ∃ N : Nat, n = (N : Int) := ⟨n.toNat, by omega⟩
        have := itoa4 ⟨N, by omega⟩
        simp only at this
        rw [this]
        simp
      · have := tab_wl ⟨k.toNat, by omega⟩
        simp only at this
        omega
theorem xaft_len (m i : Nat) (h : m ≤ 2) : (xaft (xsOf m i)).length ≤ 6 := by
  have : m = 0 ∨ m = 1 ∨ m = 2 := by omega
  rcases this with rfl | rfl | rfl <;> simp [xsOf, xaft, xname]
theorem more_le (k : Int) (hk : 1 ≤ k ∧ k ≤ 18) {i : Nat} (hi : i < (shpL k).length) : more ((shpL k).drop i) ≤ 2 := by
  have h1 := more_eq hk hi
  have h2 := bindsAt_bd k i
  omega
/-- A text is no longer than so many signs a term. -/
theorem ppF_len (ds : List (List UInt8)) (hd : Brief ds) : ∀ (f : F) (ns : List (List UInt8)) (k deep : Int) (i : Nat) (fl : Bool), Brief ns → 1 ≤ k ∧ k ≤ 18 → lookF ds.length f ns.length deep k i = 0 → i + len f = (shpL k).length → (ppF ds f ((shpL k).drop i) ns fl).length ≤ 24 * size f
  | .nil, _, _, _, _, _, _, _, _, _ => by simp [ppF, size]
  | .node x y a l r, ns, k, deep, i, fl, hn, hk, hl, hi => by
    obtain ⟨h1, h2⟩ := lookF_first hl
    have hi' : i < (shpL k).length := by rw [len] at hi; omega
    have hm := more_eq hk hi'
    have hm2 := more_le k hk hi'
    have hN : Brief (ns ++ xsOf (more ((shpL k).drop i)) ns.length) := hn.adds _ _
    have hlen : ((ns ++ xsOf (more ((shpL k).drop i)) ns.length).length : Int) = ns.length + bindsAt k i := by rw [List.length_append, xsOf_len, Int.natCast_add, hm]
    rw [← hlen] at h1
    have hr := ppF_len ds hd r ns k deep (i + 1) true hn hk h2 (by rw [len] at hi; omega)
    have hx := xaft_len (more ((shpL k).drop i)) ns.length hm2
    have hT : (ppT ds (ns ++ xsOf (more ((shpL k).drop i)) ns.length) a.1 a.2 l).length ≤ 24 * size l + 12 := by
      obtain ⟨hka, hll, _, _, hla, _⟩ := lookT_args h1
      unfold ppT
      split
      · have := atomP_len hd hN h1
        omega
      · have hl2 := ppF_len ds hd l _ a.1 (deep + 1) 0 (decide (a.1 ≠ 5)) hN hka hla (by omega)
        rw [List.drop_zero] at hl2
        have hw := tab_wl ⟨a.1.toNat, by omega⟩
        simp only at hw
        rw [List.length_cons, List.length_append, List.length_append, List.length_singleton]
        omega
    rw [ppF_node, List.tail_drop, size]
    cases fl <;> simp <;> omega
theorem ppT_len {ds ns : List (List UInt8)} (hd : Brief ds) (hn : Brief ns) {k n deep : Int} {l : F} (h : lookT ds.length ns.length deep k n l = 0) : (ppT ds ns k n l).length ≤ 24 * size l + 12 := by
  obtain ⟨hka, hll, _, _, hla, _⟩ := lookT_args h
  unfold ppT
  split
  · have := atomP_len hd hn h
    omega
  · have hl2 := ppF_len ds hd l _ k (deep + 1) 0 (decide (k ≠ 5)) hn hka hla (by omega)
    rw [List.drop_zero] at hl2
    have hw := tab_wl ⟨k.toNat, by omega⟩
    simp only at hw
    rw [List.length_cons, List.length_append, List.length_append, List.length_singleton]
    omega
end Go.Proofs.YtcgpjihfligdbaaDoor

namespace Go.Proofs.YtcgpjihfligdbaaDoor
open Go.RowKit Tmx
set_option maxRecDepth 60000

theorem boundF_first {f : F} {i : Nat} {x y : Nat} {a : Int × Int} {l r : F} (h : drop i f = .node x y a l r) (sh : List UInt8) (b : Nat) : boundF (drop i f) sh b = max (boundF l (shpL a.1) (b + more sh)) (boundF (drop (i + 1) f) sh.tail b) := by
  rw [h, boundF, drop_succ i f x y a l r h]

set_option maxRecDepth 60000 in
set_option maxHeartbeats 4000000 in
theorem bound_any (m : Nat) : ∀ (f : F) (k n : Int) (q : Option Addr) (cap : Nat) (nn : Nat) (decls deep : Int) (w : World), size f < m → lookT decls nn deep k n f = 0 → 1 ≤ deep → (nn : Int) + 2 * (25 - deep) ≤ 4611686018427387904 → Sl w q f →
    Calls Tryd.prog 28 #[.agg #[.int .i64 k, .int .i64 n, .slice q (len f) cap], .int .i64 (nn : Int)] w fun e w' => e = .returned (.int .i64 ((boundF f (shpL k) nn : Nat) : Int)) ∧ Below w.heap.size w w' := by
  induction m with
  | zero => intro f k n q cap nn decls deep w h; omega
  | succ m ih =>
    intro f k n q cap nn decls deep w hm hlk h1 hbd hs
    have H : Hid (∀ (f : F) (k n : Int) (q : Option Addr) (cap : Nat) (nn : Nat) (decls deep : Int) (w : World), size f < m → lookT decls nn deep k n f = 0 → 1 ≤ deep → (nn : Int) + 2 * (25 - deep) ≤ 4611686018427387904 → Sl w q f →
      Calls Tryd.prog 28 #[.agg #[.int .i64 k, .int .i64 n, .slice q (len f) cap], .int .i64 (nn : Int)] w fun e w' => e = .returned (.int .i64 ((boundF f (shpL k) nn : Nat) : Int)) ∧ Below w.heap.size w w') := ih
    clear ih
    obtain ⟨hk, hlf, _, _, hlF, hdeep⟩ := lookT_args hlk
    have g2a := hk.1
    have g2b := hk.2
    have hL4 := shpL_len k
    have hlf2 : len f ≤ (shp k).size ∧ (shp k).size ≤ 4 := by simp [shp, ByteArray.size]; omega
    have HLF : Hid (len f = (shpL k).length) := hlf
    obtain ⟨X, hX⟩ : ∃ X, boundF f (shpL k) nn = X := ⟨_, rfl⟩
    have HX : Hid (boundF f (shpL k) nn = X) := hX
    rw [hX]
    have hXge : nn ≤ X := by rw [← hX]; exact boundF_ge f (shpL k) nn
    clear hX hlf hlk
    go_enter Tryd.func28, Tryd.ntmps28
    go_wp2_with fail
    refine (shape_any k _).mono ?_
    rintro e w1 ⟨rfl, hb1⟩
    obtain ⟨c0, c1, c2, hb, hz⟩ := box3 hb1
    clear hb1
    go_wp2_with fail
    go_loopw [5, 16] (fun mo i wr => ∃ (j mj : Nat), j ≤ len f ∧ i = .int .i64 j ∧ mo = .int .i64 (mj : Int) ∧ nn ≤ mj ∧ Hid (max mj (boundF (drop j f) ((shpL k).drop j) nn) = X) ∧ Below w.heap.size w wr) (fun _ i _ => len f - (intOf i).toNat)
    case atStart => exact ⟨0, nn, Nat.zero_le _, rfl, rfl, Nat.le_refl _, by show max nn (boundF f ((shpL k).drop 0) nn) = X; rw [List.drop_zero, HX.out]; omega, hb⟩
    case round =>
      clear c0 c1 c2 hb hz
      obtain ⟨j, mj, hj, rfl, rfl, hmj, HV, hb⟩ := hrel
      by_cases hlt : j < len f
      · obtain ⟨b, o, k', n', p, cap', x, y, l, r, rfl, e, hbl, c1, c2, c3, hsl⟩ := hs.at hb hlt
        have hsz := size_at j f e
        have hlt' := lookF_at j f 0 e hlF
        rw [Nat.zero_add] at hlt'
        have hbb := bindsAt_bd k j
        obtain ⟨mm, hmm⟩ : ∃ mm : Nat, Tmx.bindsAt k j = (mm : Int) := ⟨(Tmx.bindsAt k j).toNat, by omega⟩
        have hmore : more ((shpL k).drop j) = mm := by have := more_eq hk (i := j) (by rw [← HLF.out]; exact hlt); omega
        have HV2 : Hid (max mj (max (boundF l (shpL k') (nn + mm)) (boundF (drop (j + 1) f) ((shpL k).drop (j + 1)) nn)) = X) := by
          have h2 := HV.out
          rw [boundF_first e, hmore, List.tail_drop] at h2
          exact h2
        have hlt2 : (j : Int) < ((shp k).size : Int) := by omega
        have hlt3 : j < (shp k).size := by omega
        have HMM : Hid (Tmx.bindsAt k j = (mm : Int)) := hmm
        rw [hmm] at hlt' hbb
        clear HV hmore e hmm
        go_wp2_with fail
        have HC : Hid (∀ W : World, Below wr.heap.size wr W → Calls Tryd.prog 28 #[.agg #[.int .i64 k', .int .i64 n', .slice p (len l) cap'], .int .i64 ((nn : Int) + Tmx.bindsAt k j)] W fun e w' => e = .returned (.int .i64 ((boundF l (shpL k') (nn + mm) : Nat) : Int)) ∧ Below W.heap.size W w') := fun W hW => by
          rw [HMM.out, ← Int.natCast_add]
          exact H.out l k' n' p cap' (nn + mm) decls (deep + 1) W (by omega) (by rw [Int.natCast_add]; exact hlt') (by omega) (by rw [Int.natCast_add]; omega) (hsl.below hW)
        clear H hlt'
        first
        | go_region_law (first
            | (go_simp; go_at_call 28; rw [bound_at k nn j hlt3 g2a g2b (by omega) (by omega)]; refine (HC.out _ (((Below.refl _ _).alloc (Nat.le_refl _) _).drew)).mono ?_; rintro e w2 ⟨rfl, hb2⟩))
        | fail
        all_goals
          have hbw2 : Below w.heap.size w w2 := hb.trans ((((Below.refl _ _).alloc (Nat.le_refl _) _).drew.trans (hb2.mono (by simp))).mono hb.size)
          go_wp2_with fail
          go_roundw
          case rel => exact ⟨j + 1, max mj (boundF l (shpL k') (nn + mm)), hlt, by go_num, by rw [show max (mj : Int) ((boundF l (shpL k') (nn + mm) : Nat) : Int) = ((max mj (boundF l (shpL k') (nn + mm)) : Nat) : Int) by omega], by omega, by show _ = X; rw [← HV2.out]; omega, hbw2⟩
          case measure => simp [intOf]; omega
      · obtain rfl : j = len f := by omega
        have HE : Hid (X = mj) := by
          have h2 := HV.out
          rw [drop_len, boundF] at h2
          show X = mj
          omega
        go_wp2_with fail
        go_ret
        exact ⟨by rw [HE.out]; rfl, hb⟩
end Go.Proofs.YtcgpjihfligdbaaDoor

namespace Go.Proofs.YtcgpjihfligdbaaDoor
open Go.RowKit Tmx
set_option maxRecDepth 60000

/-- Names are put behind names. -/
theorem append_names (w : World) (lo r : Nat) (v : Value) (ns : List (List UInt8)) (hA : NamesIn lo w v ns) (p : Option Addr) (c : Nat) (ms : List (List UInt8)) (hS : Strs r w p ms) (hp : p = none → c = 0) (hlen : ns.length + ms.length ≤ 4000000) (hlo : lo ≤ w.heap.size) (ty : TypeId) :
    ∃ v' w', (Builtin.append_ #[36, 36] ty #[v, .slice p ms.length c]).run Tryd.prog w = .ok v' w' ∧ NamesIn lo w' v' (ns ++ ms) ∧ w.grownBy w' v.ownBlock := by
  obtain ⟨i, hi, he⟩ := Option.map_eq_some_iff.1 i9
  simp only [Prod.mk.injEq] at he
  obtain ⟨hz, hs, hb⟩ := he
  cases p with
  | none =>
    have h0 : ms = [] := by
      obtain ⟨b, o, h1, _⟩ := hS
      cases ms with
      | nil => rfl
      | cons x ms => exact absurd (h1 (by simp)).1 (by simp)
    subst h0
    rw [hp rfl, List.append_nil]
    exact ⟨_, _, run_append_owned_none (P := Tryd.prog) w lo 36 ty 9 i 1 u50 hi _ _ _ hA, hA, ⟨rfl, rfl, rfl, Nat.le_refl _, fun _ _ _ => rfl⟩⟩
  | some a =>
    have hnews : ∀ j u, (ms.map fun l => Value.string ⟨l.toArray⟩)[j]? = some u → w.cell? (a.add j) = some u := by
      intro j u hu
      obtain ⟨b, o, h1, h2⟩ := hS
      have hj : j < ms.length := by
        obtain ⟨hlt, _⟩ := List.getElem?_eq_some_iff.1 hu
        simpa using hlt
      have ha : a = ⟨b, o, none⟩ := by simpa using (h1 (by omega)).1
      subst ha
      have hadd : (⟨b, o, none⟩ : Addr).add j = ⟨b, o + j, none⟩ := by unfold Addr.add; split <;> simp_all
      rw [hadd, h2 j hj]
      rw [List.getElem?_map, List.getElem?_eq_getElem hj] at hu
      simpa [List.getD_eq_getElem?_getD, List.getElem?_eq_getElem hj] using hu
    obtain ⟨v', w', hr, ho, hg, _⟩ := run_append_own (P := Tryd.prog) w lo 36 ty 9 i _ 1 16 u50 hi hz hs hb rfl (by decide) v ns.length _ hA a ms.length c (ms.map fun l => Value.string ⟨l.toArray⟩) (by simp)
      hnews (by simp [Value.oneCell']) (by simp only [maxLen]; omega) (by omega) hlo
    refine ⟨v', w', hr, ?_, hg⟩
    unfold NamesIn
    rw [List.length_append, List.map_append]
    exact ho

theorem mapLaw : Go.Maps.Keyed Tryd.prog 9 := Go.Maps.string_keyed Tryd.underlying9
theorem uMap : Tryd.prog.underlying 47 = some (.map 9 4) := by kernel_rfl
theorem zeroB (w : World) : (zeroValue 4).run Tryd.prog w = .ok (.bool false) w := by kernel_rfl
theorem plainElem_bool_inv {H : Type} {P : Program} {e : TypeId} (he : P.underlying e = some .bool) {v : Value} {z : DataW H × List MemPlace} (h : plainElem P e v = some z) : ∃ c, v = .bool c ∧ z = (.lit (.bool c), []) := by
  unfold plainElem at h
  rw [he] at h
  cases v <;> simp at h
  exact ⟨_, rfl, h.symm⟩
/-- The block B holds a set of texts: all those of seen are in it. -/
def SetIs (w : World) (B n : Nat) (seen : List (List UInt8)) : Prop := ∃ D : DataW Unit, w.ownsMap Tryd.prog 9 (plainElem Tryd.prog 4) B n D ∧ ∀ x ∈ seen, D.atKey (.string x) (.lit (.bool false)) = .lit (.bool true)
theorem SetIs.made (w : World) : SetIs (w.alloc (.map #[] 0)) w.heap.size 0 [] := ⟨.map [], World.ownsMap_made w _ _ _, fun x h => by simp at h⟩
theorem SetIs.lt {w : World} {B n : Nat} {seen : List (List UInt8)} (h : SetIs w B n seen) : B < w.heap.size := by
  obtain ⟨D, h1, _⟩ := h
  exact h1.lt
theorem SetIs.below {w w' : World} {B n : Nat} {seen : List (List UInt8)} (h : SetIs w B n seen) (hb : Below w.heap.size w w') : SetIs w' B n seen := by
  obtain ⟨D, h1, h2⟩ := h
  exact ⟨D, h1.kept (row := none) ⟨hb.os, hb.tape, hb.output, hb.size, fun k hk _ => hb.block k hk⟩ (by simp), h2⟩
theorem set_key (x : List UInt8) (hx : x.length ≤ 8) : keyOf Tryd.prog 9 (.string ⟨x.toArray⟩) = some (.string x) := by
  have := Go.WideMaps.keyOf_string_mk (P := Tryd.prog) (k := 9) Tryd.underlying9 (s := ⟨x.toArray⟩) (by simp [ByteArray.size, maxLen]; omega)
  simpa using this
/-- Is a text in it? -/
theorem SetIs.look {w : World} {B n : Nat} {seen : List (List UInt8)} (h : SetIs w B n seen) (x : List UInt8) (hx : x.length ≤ 8) :
    ∃ c, (Instr.lookup 47 (.map (some B)) (.string ⟨x.toArray⟩) false).run Tryd.prog w = .ok (.bool c) w ∧ (c = false → x ∉ seen) := by
  obtain ⟨D, h1, h2⟩ := h
  have hkey := set_key x hx
  obtain ⟨v, ps, hrun, hv⟩ := h1.lookup mapLaw uMap (zeroB w) (plainElem_bool Tryd.underlying4 false) hkey
  obtain ⟨c, rfl, hc⟩ := plainElem_bool_inv Tryd.underlying4 hv
  refine ⟨c, hrun, fun e hm => ?_⟩
  have h3 := h2 x hm
  have h4 : D.atKey (.string x) (.lit (.bool false)) = .lit (.bool c) := congrArg Prod.fst hc
  rw [h3, e] at h4
  simp at h4
/-- A text is put into it. -/
theorem SetIs.put {w : World} {B n : Nat} {seen : List (List UInt8)} (h : SetIs w B n seen) (x : List UInt8) (hx : x.length ≤ 8) (hn : n ≤ 4000000) :
    ∃ w', (Instr.mapUpdate 47 (.map (some B)) (.string ⟨x.toArray⟩) (.bool true)).run Tryd.prog w = .ok () w' ∧ SetIs w' B (n + 1) (seen ++ [x]) ∧ w.grownBy w' (some B) := by
  obtain ⟨D, h1, h2⟩ := h
  have hm : Go.Maps.IsMap D := by
    obtain ⟨es, clock, _, _, _, rfl⟩ := h1
    exact ⟨_, rfl⟩
  obtain ⟨w', hr, ho, hg⟩ := h1.update mapLaw uMap (by simp only [maxLen]; omega) (set_key x hx) (plainElem_bool Tryd.underlying4 true)
  refine ⟨w', hr, ⟨_, ho, fun y hy => ?_⟩, hg⟩
  by_cases e : y = x
  · rw [e]
    exact Go.Maps.atKey_put_same (k := .string x) hm trivial _ _
  · rw [Go.Maps.atKey_put_other (fun e2 => e (by simpa using e2))]
    rcases List.mem_append.1 hy with h3 | h3
    · exact h2 y h3
    · exact absurd (by simpa using h3) e
/-- A step by a store into a map whose run is known. -/
theorem wpList_mapUpdate_run {P : Program} {ops : Array Oper} {rest : List Oper} {o : Oper} {a : Act} {Q : Exit → Act → World → Prop} {w w' : World} (hgd : o.guard = none) (m x v : Operand) (t : TypeId) (hop : o.op = Op.mapUpdate t m x v)
    (v1 v2 v3 : Value) (hm : a.eval m = v1) (hx : a.eval x = v2) (hv : a.eval v = v3) (hr : (Instr.mapUpdate t v1 v2 v3).run P w = .ok () w') (h : wpList P ops Q rest (a.put o.dst undef) w') : wpList P ops Q (o :: rest) a w := by
  refine wpList_plain hgd fun K hK => ?_
  unfold Oper.wp
  simp [execOp, hop, hm, hx, hv, hr, Result.andThen]
  exact hK _ _ h

/-- Names that are unlike, and begin with no x. -/
theorem good_of {ns ds : List (List UInt8)} (h1 : ∀ x ∈ ns ++ ds, nameB x = true ∧ x.head? ≠ some 120) (h2 : (ns ++ ds).Nodup) : Tmx.Good ns ds := by
  have h3 := List.nodup_append.1 h2
  refine ⟨fun x hx => (h1 x (List.mem_append_left _ hx)).1, fun x hx => (h1 x (List.mem_append_right _ hx)).1, h3.1, h3.2.1, fun x hx hn => h3.2.2 x hn x hx rfl, fun i _ _ => ⟨fun hm => ?_, fun hm => ?_⟩⟩
  · exact (h1 _ (List.mem_append_left _ hm)).2 rfl
  · exact (h1 _ (List.mem_append_right _ hm)).2 rfl
end Go.Proofs.YtcgpjihfligdbaaDoor
