/-
  A term as words, and that these are read as the term.
-/
/-
  Words sign by sign; words joined to a text are its words; blanks around brackets are no matter.
-/
import Derived.Test.YthfjmcomhccbaaaGreatDoorPlainKm
namespace Tmx
open Go Go.Deep

/-- What is bound where so many are is called so. -/
def xname (i : Nat) : List UInt8 := [120, UInt8.ofNat (97 + i % 26)]
/-- So many names, from where so many are bound on. -/
def xsOf : Nat → Nat → List (List UInt8)
  | 0, _ => []
  | m + 1, i => xname i :: xsOf m (i + 1)
theorem xsOf_len : ∀ (m i : Nat), (xsOf m i).length = m
  | 0, _ => rfl
  | m + 1, i => by rw [xsOf, List.length_cons, xsOf_len m]
/-- How many the next argument of a shape has bound. -/
def more (sh : List UInt8) : Nat := (sh.headD 48).toNat - 48
/-- A word of a term without arguments. -/
def atomP (ds ns : List (List UInt8)) (k n : Int) : List UInt8 :=
  if k = 1 then ns.getD (ns.length - 1 - n.toNat) [] else if k = 18 then ds.getD n.toNat [] else if k = 2 then 85 :: Lib.itoa n else wordL k.toNat
/-- The words of the arguments of a shape. -/
def ptF (ds : List (List UInt8)) : F → List UInt8 → List (List UInt8) → List (List UInt8)
  | .nil, _, _ => []
  | .node _ _ a l r, sh, ns =>
    xsOf (more sh) ns.length ++ ((if shpL a.1 = [] then [atomP ds (ns ++ xsOf (more sh) ns.length) a.1 a.2]
      else [40] :: ((if a.1 = 5 then [] else [wordL a.1.toNat]) ++ (ptF ds l (shpL a.1) (ns ++ xsOf (more sh) ns.length) ++ [[41]]))) ++ ptF ds r sh.tail ns)
/-- The words of a term. -/
def ptT (ds ns : List (List UInt8)) (k n : Int) (l : F) : List (List UInt8) :=
  if shpL k = [] then [atomP ds ns k n] else [40] :: ((if k = 5 then [] else [wordL k.toNat]) ++ (ptF ds l (shpL k) ns ++ [[41]]))
theorem ptF_node (ds : List (List UInt8)) (x y : Nat) (a : Int × Int) (l r : F) (sh : List UInt8) (ns : List (List UInt8)) :
    ptF ds (.node x y a l r) sh ns = xsOf (more sh) ns.length ++ (ptT ds (ns ++ xsOf (more sh) ns.length) a.1 a.2 l ++ ptF ds r sh.tail ns) := rfl
/-- How many are bound at most in the arguments of a shape, where so many are. -/
def boundF : F → List UInt8 → Nat → Nat
  | .nil, _, b => b
  | .node _ _ a l r, sh, b => max (boundF l (shpL a.1) (b + more sh)) (boundF r sh.tail b)
theorem boundF_ge : ∀ (f : F) (sh : List UInt8) (b : Nat), b ≤ boundF f sh b
  | .nil, _, _ => Nat.le_refl _
  | .node _ _ a l r, sh, b => by
    rw [boundF]
    have := boundF_ge r sh.tail b
    omega

/-- Names that are there: they are names, unlike, and none is one that a term gives. -/
structure Good (ns ds : List (List UInt8)) : Prop where
  nsOk : ∀ w ∈ ns, nameB w = true
  dsOk : ∀ w ∈ ds, nameB w = true
  nsOne : ns.Nodup
  dsOne : ds.Nodup
  apart : ∀ w ∈ ds, w ∉ ns
  fresh : ∀ i, ns.length ≤ i → i < 26 → xname i ∉ ns ∧ xname i ∉ ds

theorem xname_ok : ∀ i : Fin 26, nameB (xname i.val) = true := by decide
theorem xname_inj : ∀ i j : Fin 26, xname i.val = xname j.val → i.val = j.val := by decide
theorem xname_name (i : Nat) (h : i < 26) : nameB (xname i) = true := xname_ok ⟨i, h⟩
theorem xname_ne {i j : Nat} (hi : i < 26) (hj : j < 26) (h : i ≠ j) : xname i ≠ xname j := fun e => h (xname_inj ⟨i, hi⟩ ⟨j, hj⟩ e)

theorem Good.add {ns ds : List (List UInt8)} (h : Good ns ds) (hl : ns.length < 26) : Good (ns ++ [xname ns.length]) ds := by
  obtain ⟨f1, f2⟩ := h.fresh ns.length (Nat.le_refl _) hl
  refine ⟨fun w hw => ?_, h.dsOk, ?_, h.dsOne, fun w hw hn => ?_, fun i hi h26 => ⟨fun hm => ?_, (h.fresh i (by simp at hi; omega) h26).2⟩⟩
  · rcases List.mem_append.1 hw with hw | hw
    · exact h.nsOk w hw
    · rw [List.mem_singleton.1 hw]; exact xname_name _ hl
  · rw [List.nodup_append]
    refine ⟨h.nsOne, by simp, fun a ha b hb e => ?_⟩
    rw [List.mem_singleton.1 hb] at e
    exact f1 (e ▸ ha)
  · rcases List.mem_append.1 hn with hn | hn
    · exact h.apart w hw hn
    · rw [List.mem_singleton.1 hn] at hw; exact f2 hw
  · simp at hi
    rcases List.mem_append.1 hm with hm | hm
    · exact (h.fresh i (by omega) h26).1 hm
    · exact xname_ne h26 hl (by omega) (List.mem_singleton.1 hm)
theorem Good.adds : ∀ (m : Nat) {ns ds : List (List UInt8)}, Good ns ds → ns.length + m ≤ 26 → Good (ns ++ xsOf m ns.length) ds
  | 0, ns, ds, h, _ => by simpa [xsOf] using h
  | m + 1, ns, ds, h, hl => by
    have := Good.adds m (h.add (by omega)) (by simp; omega)
    rw [List.length_append, List.length_singleton, List.append_assoc] at this
    exact this

theorem namesK_xs : ∀ (m : Nat) (ns rest : List (List UInt8)), ns.length + m ≤ 26 → namesK m ns (xsOf m ns.length ++ rest) = .ok (ns ++ xsOf m ns.length, rest)
  | 0, ns, rest, _ => by simp [xsOf, namesK]
  | m + 1, ns, rest, h => by
    rw [xsOf, List.cons_append, namesK, if_pos (xname_name _ (by omega))]
    have := namesK_xs m (ns ++ [xname ns.length]) rest (by simp; omega)
    rw [List.length_append, List.length_singleton, List.append_assoc] at this
    exact this

/-! Atoms. -/
theorem name_low {w : List UInt8} (h : nameB w = true) : kindOf w ≤ 0 ∧ w ≠ [] ∧ lower w = true := by
  simp only [nameB, Bool.and_eq_true, decide_eq_true_eq, Bool.not_eq_true', beq_eq_false_iff_ne] at h
  exact ⟨h.1.2, h.1.1.1.1, h.2⟩
theorem low_head {w : List UInt8} (h : lower w = true) (c : UInt8) (hc : c < 97) : w.head? ≠ some c := by
  cases w with
  | nil => simp
  | cons d r =>
    simp only [lower, Bool.and_eq_true, decide_eq_true_eq] at h
    intro e
    obtain rfl : d = c := by simpa using e
    exact absurd h.1.1 (by simpa using hc)
theorem name_plain {w : List UInt8} (h : nameB w = true) (ns ds : List (List UInt8)) : atomS ns ds w 0 = atomV ns ds w 0 ∧ w ≠ [40] := by
  obtain ⟨h1, _, h3⟩ := name_low h
  refine ⟨?_, fun e => low_head h3 40 (by decide) (by rw [e]; rfl)⟩
  unfold atomS atomN
  rw [if_neg (low_head h3 85 (by decide)), if_neg (by omega), if_neg (by rw [h]; simp)]
theorem fl_at : ∀ (ns : List (List UInt8)) (m i : Nat), ns.Nodup → m ≤ ns.length → i < m → fl ns (ns.getD i []) m = some i
  | ns, 0, i, _, _, h => by omega
  | ns, m + 1, i, hd, hm, hi => by
    rw [fl]
    by_cases e : i = m
    · subst e; rw [if_pos rfl]
    · rw [if_neg (fun he => ?_), fl_at ns m i hd (by omega) (by omega)]
      rw [List.getD_eq_getElem?_getD, List.getD_eq_getElem?_getD, List.getElem?_eq_getElem (by omega), List.getElem?_eq_getElem (by omega)] at he
      exact List.pairwise_iff_getElem.1 hd i m (by omega) (by omega) (by omega) (by simpa using he.symm)
theorem fl_none : ∀ (ns : List (List UInt8)) (w : List UInt8) (m : Nat), m ≤ ns.length → w ∉ ns → fl ns w m = none
  | _, _, 0, _, _ => rfl
  | ns, w, m + 1, hm, hw => by
    rw [fl, if_neg (fun he => ?_), fl_none ns w m (by omega) hw]
    rw [List.getD_eq_getElem?_getD, List.getElem?_eq_getElem (by omega)] at he
    exact hw (he ▸ List.getElem_mem (by omega))
theorem atom_var {ns ds : List (List UInt8)} (h : Good ns ds) {n : Int} (h0 : 0 ≤ n) (h1 : n < ns.length) :
    atomS ns ds (atomP ds ns 1 n) 0 = ((1, n, .nil), 0) ∧ atomP ds ns 1 n ≠ [40] ∧ nameB (atomP ds ns 1 n) = true := by
  have hi : ns.length - 1 - n.toNat < ns.length := by omega
  have hw : atomP ds ns 1 n = ns.getD (ns.length - 1 - n.toNat) [] := by unfold atomP; rw [if_pos rfl]
  have hm : ns.getD (ns.length - 1 - n.toNat) [] ∈ ns := by
    rw [List.getD_eq_getElem?_getD, List.getElem?_eq_getElem hi]
    exact List.getElem_mem hi
  have hn := h.nsOk _ hm
  rw [hw]
  obtain ⟨p1, p2⟩ := name_plain hn ns ds
  refine ⟨?_, p2, hn⟩
  rw [p1]
  unfold atomV
  rw [fl_at ns ns.length _ h.nsOne (Nat.le_refl _) hi]
  simp only [Prod.mk.injEq, and_true, true_and]
  omega
theorem atom_def {ns ds : List (List UInt8)} (h : Good ns ds) {n : Int} (h0 : 0 ≤ n) (h1 : n < ds.length) :
    atomS ns ds (atomP ds ns 18 n) 0 = ((18, n, .nil), 0) ∧ atomP ds ns 18 n ≠ [40] ∧ nameB (atomP ds ns 18 n) = true := by
  have hi : n.toNat < ds.length := by omega
  have hw : atomP ds ns 18 n = ds.getD n.toNat [] := by unfold atomP; rw [if_neg (by omega), if_pos rfl]
  have hm : ds.getD n.toNat [] ∈ ds := by
    rw [List.getD_eq_getElem?_getD, List.getElem?_eq_getElem hi]
    exact List.getElem_mem hi
  have hn := h.dsOk _ hm
  rw [hw]
  obtain ⟨p1, p2⟩ := name_plain hn ns ds
  refine ⟨?_, p2, hn⟩
  rw [p1]
  unfold atomV atomD
  rw [fl_none ns _ ns.length (Nat.le_refl _) (h.apart _ hm)]
  simp only
  rw [fl_at ds ds.length _ h.dsOne (Nat.le_refl _) hi]
  simp only [Prod.mk.injEq, and_true, true_and]
  omega
theorem itoa4 : ∀ n : Fin 4, Lib.itoa (n.val : Int) = [UInt8.ofNat (48 + n.val)] := by
  intro n
  have : (n.val : Int).toNat = n.val := rfl
  unfold Lib.itoa
  rw [if_neg (by omega), this]
  unfold Lib.decDigits
  rw [dif_pos (by omega)]
theorem atoi4 : ∀ n : Fin 4, Lib.atoiAll [UInt8.ofNat (48 + n.val)] = .ok (n.val : Int) := by decide
theorem atom_U {ns ds : List (List UInt8)} {n : Int} (h0 : 0 ≤ n) (h1 : n < 4) : atomS ns ds (atomP ds ns 2 n) 0 = ((2, n, .nil), 0) ∧ (atomP ds ns 2 n).head? = some 85 := by
  obtain ⟨m, rfl⟩ := Int.eq_ofNat_of_zero_le h0
  have hw : atomP ds ns 2 (m : Int) = 85 :: Lib.itoa (m : Int) := by unfold atomP; rw [if_neg (by omega), if_neg (by omega), if_pos rfl]
  have hi := itoa4 ⟨m, by omega⟩
  have ha := atoi4 ⟨m, by omega⟩
  simp only at hi ha
  rw [hw]
  refine ⟨?_, rfl⟩
  unfold atomS atomU
  rw [if_pos (show (85 :: Lib.itoa (m : Int)).head? = some 85 from rfl), List.drop_succ_cons, List.drop_zero, hi, ha]
  simp only
  rw [hi, if_pos rfl, if_neg (by omega)]
theorem tab_atom : ∀ K : Fin 19, shpL (K.val : Int) = [] → (K.val = 1 ∨ K.val = 2 ∨ K.val = 18 ∨ K.val = 0) ∨ (kindOf (wordL K.val) = (K.val : Int) ∧ (wordL K.val).head? ≠ some 85 ∧ wordL K.val ≠ [40]) := by decide
theorem atom_kind {ns ds : List (List UInt8)} {k : Int} (hk : 1 ≤ k ∧ k ≤ 18) (hs : shpL k = []) (h1 : k ≠ 1) (h2 : k ≠ 2) (h3 : k ≠ 18) (n : Int) :
    atomS ns ds (atomP ds ns k n) 0 = ((k, 0, .nil), 0) ∧ atomP ds ns k n ≠ [40] ∧ kindOf (atomP ds ns k n) = k := by
  obtain ⟨K, rfl⟩ := Int.eq_ofNat_of_zero_le (show 0 ≤ k by omega)
  have hw : atomP ds ns (K : Int) n = wordL K := by unfold atomP; rw [if_neg h1, if_neg h3, if_neg h2]; rfl
  rw [hw]
  rcases tab_atom ⟨K, by omega⟩ hs with h | ⟨g1, g2, g3⟩
  · simp only at h; omega
  · simp only at g1 g2 g3
    refine ⟨?_, g3, g1⟩
    unfold atomS atomN
    rw [if_neg g2, g1, if_pos (by omega), if_pos hs]
/-- A word of a right term without arguments is read as that. -/
theorem atom_reads {ns ds : List (List UInt8)} (h : Good ns ds) {k n deep : Int} {f : F} (hl : lookT ds.length ns.length deep k n f = 0) (hs : shpL k = []) :
    atomS ns ds (atomP ds ns k n) 0 = ((k, n, .nil), 0) ∧ atomP ds ns k n ≠ [40] ∧ ¬ (0 < kindOf (atomP ds ns k n) ∧ shpL (kindOf (atomP ds ns k n)) ≠ []) := by
  obtain ⟨_, hk, _, ⟨g4, g5⟩, _⟩ := lookT_zero hl
  by_cases h1 : k = 1
  · subst h1
    obtain ⟨a, b, c⟩ := atom_var h g4 (by simpa [least] using g5)
    have := (name_low c).1
    exact ⟨a, b, fun hh => by omega⟩
  · by_cases h2 : k = 2
    · subst h2
      obtain ⟨a, b⟩ := atom_U (ns := ns) (ds := ds) g4 (by simpa [least] using g5)
      refine ⟨a, fun e => by rw [e] at b; simp at b, fun hh => ?_⟩
      obtain ⟨m, rfl⟩ := Int.eq_ofNat_of_zero_le g4
      have hm : m < 4 := by
        have : (m : Int) < 4 := by simpa [least] using g5
        omega
      have hw : atomP ds ns 2 (m : Int) = 85 :: [UInt8.ofNat (48 + m)] := by
        unfold atomP
        rw [if_neg (by omega), if_neg (by omega), if_pos rfl, itoa4 ⟨m, hm⟩]
      rw [hw] at hh
      have : ∀ M : Fin 4, kindOf (85 :: [UInt8.ofNat (48 + M.val)]) = 0 := by decide
      have := this ⟨m, hm⟩
      simp only at this
      omega
    · by_cases h3 : k = 18
      · subst h3
        obtain ⟨a, b, c⟩ := atom_def h g4 (by simpa [least] using g5)
        have := (name_low c).1
        exact ⟨a, b, fun hh => by omega⟩
      · obtain ⟨a, b, c⟩ := atom_kind (ns := ns) (ds := ds) hk hs h1 h2 h3 n
        have hn : n = 0 := by
          have : least ns.length ds.length k = 1 := by unfold least; rw [if_neg h1, if_neg h2, if_neg h3]
          omega
        rw [hn] at a b c ⊢
        exact ⟨a, b, fun hh => by rw [c] at hh; exact hh.2 hs⟩

/-! Terms. -/
theorem tab_word : ∀ K : Fin 19, shpL (K.val : Int) ≠ [] → K.val ≠ 0 → K.val ≠ 5 → kindOf (wordL K.val) = (K.val : Int) := by decide
theorem five_shape : shpL 5 = [48, 48] := rfl
/-- The first word of a term is none of a kind with arguments. -/
theorem ptT_first {ns ds : List (List UInt8)} (h : Good ns ds) {k n deep : Int} {f : F} (hl : lookT ds.length ns.length deep k n f = 0) (rest : List (List UInt8)) :
    ¬ (0 < kindOf (hdT (ptT ds ns k n f ++ rest)) ∧ shpL (kindOf (hdT (ptT ds ns k n f ++ rest))) ≠ []) := by
  unfold ptT
  by_cases hs : shpL k = []
  · rw [if_pos hs]
    exact (atom_reads h hl hs).2.2
  · rw [if_neg hs]
    rw [show hdT ([40] :: ((if k = 5 then [] else [wordL k.toNat]) ++ (ptF ds f (shpL k) ns ++ [[41]])) ++ rest) = [40] from rfl]
    decide
/-- One level. -/
theorem termK_level {ns ds : List (List UInt8)} (h : Good ns ds) {d : Nat} {k n deep : Int} {f : F} (hl : lookT ds.length ns.length deep k n f = 0)
    (hfirst : k = 5 → ∀ rest, ¬ (0 < kindOf (hdT (ptF ds f (shpL k) ns ++ rest)) ∧ shpL (kindOf (hdT (ptF ds f (shpL k) ns ++ rest))) ≠ []))
    (ih : ∀ rest, argsK (termK ds d) (shpL k) .nil ns (ptF ds f (shpL k) ns ++ rest) = .ok (zed f, rest)) (rest : List (List UInt8)) :
    termK ds (d + 1) ns (ptT ds ns k n f ++ rest) = .ok ((k, n, zed f), rest) := by
  obtain ⟨_, hk, hlen, ⟨g4, g5⟩, _⟩ := lookT_zero hl
  unfold ptT
  by_cases hs : shpL k = []
  · rw [if_pos hs]
    obtain ⟨a1, a2, _⟩ := atom_reads h hl hs
    obtain rfl : f = .nil := size_nil_of_len f (by rw [hlen, hs]; rfl)
    rw [List.singleton_append, termK, if_neg a2]
    unfold atomK
    rw [a1]
    rfl
  · rw [if_neg hs, List.cons_append, termK, if_pos rfl]
    have hn : n = 0 := by
      have : least ns.length ds.length k = 1 := by
        unfold least
        rw [if_neg (fun e => hs (by rw [e]; rfl)), if_neg (fun e => hs (by rw [e]; rfl)), if_neg (fun e => hs (by rw [e]; rfl))]
      omega
    have key : ∀ r, r = ((if k = 5 then [] else [wordL k.toNat]) ++ (ptF ds f (shpL k) ns ++ [[41]])) ++ rest → headKT r = k ∧ headTT r = ptF ds f (shpL k) ns ++ ([41] :: rest) := by
      intro r hr
      by_cases h5 : k = 5
      · rw [if_pos h5, List.nil_append, List.append_assoc, List.singleton_append] at hr
        have hf := hfirst h5 ([41] :: rest)
        rw [← hr] at hf
        unfold headKT headTT
        rw [if_neg hf, if_neg hf]
        exact ⟨h5.symm, hr⟩
      · rw [if_neg h5, List.singleton_append, List.cons_append, List.append_assoc, List.singleton_append] at hr
        obtain ⟨K, rfl⟩ := Int.eq_ofNat_of_zero_le (show 0 ≤ k by omega)
        have hw := tab_word ⟨K, by omega⟩ hs (by simp only; omega) (by simp only; omega)
        simp only at hw
        have hd : hdT r = wordL K := by rw [hr]; rfl
        unfold headKT headTT
        rw [hd, hw, if_pos ⟨by omega, hs⟩, if_pos ⟨by omega, hs⟩, hr]
        exact ⟨rfl, rfl⟩
    obtain ⟨k1, k2⟩ := key _ rfl
    rw [k1, k2, ih, closeK, if_pos rfl, hn]
theorem more_eq {k : Int} (hk : 1 ≤ k ∧ k ≤ 18) {i : Nat} (hi : i < (shpL k).length) : ((more ((shpL k).drop i) : Nat) : Int) = bindsAt k i := by
  have h := shp_byte k hk i hi
  have hb := bindsAt_bd k i
  unfold more
  rw [List.headD_eq_head?_getD, List.head?_drop, List.getElem?_eq_getElem hi]
  simp only [Option.getD_some]
  omega
theorem argsK_print (ds : List (List UInt8)) : ∀ (f : F) (A : F) (ns : List (List UInt8)) (k deep : Int) (i d : Nat), 1 ≤ k ∧ k ≤ 18 → lookF ds.length f ns.length deep k i = 0 → i + len f = (shpL k).length → deep + d = 25 → boundF f ((shpL k).drop i) ns.length ≤ 8 → Good ns ds →
    ∀ rest, argsK (termK ds d) ((shpL k).drop i) A ns (ptF ds f ((shpL k).drop i) ns ++ rest) = .ok (app A (zed f), rest)
  | .nil, A, ns, k, deep, i, d, hk, _, hlen, _, _, _, rest => by
    have : (shpL k).drop i = [] := List.drop_eq_nil_of_le (by simp [len] at hlen; omega)
    rw [this, argsK, zed, app_nil]
    rfl
  | .node x y a l r, A, ns, k, deep, i, d, hk, h, hlen, hd, hb, hg, rest => by
    rw [len] at hlen
    have hi : i < (shpL k).length := by omega
    obtain ⟨h1, h2⟩ := lookF_zero h
    obtain ⟨g1, g2, g3, _, g5⟩ := lookT_zero h1
    obtain ⟨d', rfl⟩ : ∃ d', d = d' + 1 := ⟨d - 1, by omega⟩
    have hm := more_eq hk hi
    obtain ⟨c, sh, hsh⟩ : ∃ c sh, (shpL k).drop i = c :: sh := by
      cases e : (shpL k).drop i with
      | nil => have := congrArg List.length e; rw [List.length_drop] at this; simp at this; omega
      | cons c sh => exact ⟨c, sh, rfl⟩
    have hsh2 : (shpL k).drop (i + 1) = sh := by rw [← List.tail_drop, hsh]; rfl
    have hmc : more (c :: sh) = c.toNat - 48 := rfl
    rw [boundF] at hb
    have hb1 := boundF_ge l (shpL a.1) (ns.length + more ((shpL k).drop i))
    have hl8 : ns.length + more ((shpL k).drop i) ≤ 8 := by omega
    have hg' := hg.adds (more ((shpL k).drop i)) (by omega)
    have hnl : (ns ++ xsOf (more ((shpL k).drop i)) ns.length).length = ns.length + more ((shpL k).drop i) := by rw [List.length_append, xsOf_len]
    have hbd : ((ns ++ xsOf (more ((shpL k).drop i)) ns.length).length : Int) = ns.length + bindsAt k i := by rw [hnl, ← hm]; omega
    rw [← hbd] at h1 g5
    have il := argsK_print ds l .nil (ns ++ xsOf (more ((shpL k).drop i)) ns.length) a.1 (deep + 1) 0 d' g2 g5 (by omega) (by omega) (by rw [hnl]; rw [List.drop_zero]; omega) hg'
    rw [List.drop_zero] at il
    have hfirst : a.1 = 5 → ∀ rest, ¬ (0 < kindOf (hdT (ptF ds l (shpL a.1) (ns ++ xsOf (more ((shpL k).drop i)) ns.length) ++ rest)) ∧ shpL (kindOf (hdT (ptF ds l (shpL a.1) (ns ++ xsOf (more ((shpL k).drop i)) ns.length) ++ rest))) ≠ []) := by
      intro e rest
      rw [e, five_shape] at g3 ⊢
      cases l with
      | nil => simp [len] at g3
      | node x2 y2 a2 l2 r2 =>
        obtain ⟨q1, _⟩ := lookF_zero g5
        rw [e, show bindsAt 5 ((0 : Nat) : Int) = 0 by decide, Int.add_zero] at q1
        rw [ptF_node, show more [48, 48] = 0 from rfl, xsOf, List.nil_append, List.append_nil, List.append_assoc]
        exact ptT_first hg' q1 _
    have lv := termK_level (d := d') hg' h1 hfirst il
    have ir := argsK_print ds r (snoc A (a.1, a.2, zed l)) ns k deep (i + 1) (d' + 1) hk h2 (by omega) hd (by rw [← List.tail_drop]; omega) hg rest
    rw [hsh2] at ir
    rw [ptF_node, List.append_assoc, List.append_assoc]
    rw [hsh] at hl8 hnl lv ⊢
    rw [argsK, ← hmc, namesK_xs _ _ _ (by omega), andX_ok, if_neg (by rw [hnl]; omega), lv, andX_ok]
    simp only [List.tail_cons]
    rw [ir, app_snoc]
    rfl
/-- A right term is read again from its words. -/
theorem termK_print {ns ds : List (List UInt8)} (hg : Good ns ds) {k n : Int} {f : F} (h1 : lookT ds.length ns.length 1 k n f = 0) (hb : boundF f (shpL k) ns.length ≤ 8) (rest : List (List UInt8)) :
    termK ds 24 ns (ptT ds ns k n f ++ rest) = .ok ((k, n, zed f), rest) := by
  obtain ⟨_, g2, g3, _, g5⟩ := lookT_zero h1
  refine termK_level (d := 23) hg h1 ?_ ?_ rest
  · intro e rest
    rw [e, five_shape] at g3 ⊢
    cases f with
    | nil => simp [len] at g3
    | node x2 y2 a2 l2 r2 =>
      obtain ⟨q1, _⟩ := lookF_zero g5
      rw [e, show bindsAt 5 ((0 : Nat) : Int) = 0 by decide, Int.add_zero] at q1
      rw [ptF_node, show more [48, 48] = 0 from rfl, xsOf, List.nil_append, List.append_nil, List.append_assoc]
      exact ptT_first hg q1 _
  · intro rest
    have := argsK_print ds f .nil ns k 2 0 23 g2 g5 (by omega) (by omega) (by rw [List.drop_zero]; exact hb) hg rest
    rw [List.drop_zero] at this
    exact this
end Tmx

namespace Tmx
open Go.Deep

/-- A blank, or a line feed. -/
def isB (c : UInt8) : Prop := c = 32 ∨ c = 10
/-- A sign that ends a word. -/
def isE (c : UInt8) : Prop := c = 32 ∨ c = 10 ∨ c = 40 ∨ c = 41
/-- Signs of a word. -/
def Wd (a : List UInt8) : Prop := ∀ c ∈ a, ¬ isE c

theorem wlen_word : ∀ (a r : List UInt8), Wd a → (r = [] ∨ ∃ c r', r = c :: r' ∧ isE c) → wlen (a ++ r) = a.length
  | [], r, _, h => by
    rcases h with rfl | ⟨c, r', rfl, hc⟩
    · rfl
    · exact (wlen_zero c r').2 hc
  | c :: a, r, hw, h => by
    rw [List.cons_append, wlen_succ c _ (hw c (by simp)), wlen_word a r (fun d hd => hw d (by simp [hd])) h, List.length_cons]
theorem toks_word {a r : List UInt8} (ha : a ≠ []) (hw : Wd a) (h : r = [] ∨ ∃ c r', r = c :: r' ∧ isE c) : toks (a ++ r) = a :: toks r := by
  have hl : wlen (a ++ r) = a.length := wlen_word a r hw h
  have hs : skip (a ++ r) = a ++ r := by
    cases a with
    | nil => exact absurd rfl ha
    | cons c a => exact skip_self c _ (fun e => hw c (by simp) (by rcases e with e | e; exact Or.inl e; exact Or.inr (Or.inl e)))
  have hp : plen (a ++ r) = a.length := by
    unfold plen
    rw [hl, if_neg (fun e => ha (List.eq_nil_of_length_eq_zero e.1))]
  have h1 : peekW (a ++ r) = a := by unfold peekW; rw [hs, hp]; simp
  have h2 : restW (a ++ r) = r := by unfold restW; rw [hs, hp]; simp
  rw [toks_some (by rw [h1]; exact ha), h1, h2]
theorem toks_blank {c : UInt8} (hc : isB c) (r : List UInt8) : toks (c :: r) = toks r := by
  have : skip (c :: r) = skip r := by rw [skip]; exact if_pos hc
  rw [← skip_toks (c :: r), this, skip_toks]
theorem toks_bracket {c : UInt8} (hc : c = 40 ∨ c = 41) (r : List UInt8) : toks (c :: r) = [c] :: toks r := by
  have hs : skip (c :: r) = c :: r := skip_self c r (by rcases hc with rfl | rfl <;> decide)
  have hp : plen (c :: r) = 1 := by
    unfold plen
    rw [if_pos ⟨(wlen_zero c r).2 (by rcases hc with rfl | rfl <;> simp), by simp⟩]
  have h1 : peekW (c :: r) = [c] := by unfold peekW; rw [hs, hp]; rfl
  have h2 : restW (c :: r) = r := by unfold restW; rw [hs, hp]; rfl
  rw [toks_some (by rw [h1]; simp), h1, h2]
theorem toks_nil : toks [] = [] := rfl

/-- A word that has come to its end. -/
def flush (a : List UInt8) : List (List UInt8) := if a = [] then [] else [a]
/-- Words, sign by sign, behind the signs of one. -/
def tk : List UInt8 → List UInt8 → List (List UInt8)
  | a, [] => flush a
  | a, c :: r => if c = 32 ∨ c = 10 then flush a ++ tk [] r else if c = 40 ∨ c = 41 then flush a ++ ([c] :: tk [] r) else tk (a ++ [c]) r
theorem toks_flush {a r : List UInt8} (hw : Wd a) (h : r = [] ∨ ∃ c r', r = c :: r' ∧ isE c) : toks (a ++ r) = flush a ++ toks r := by
  unfold flush
  by_cases ha : a = []
  · rw [if_pos ha, ha]; rfl
  · rw [if_neg ha, toks_word ha hw h]; rfl
theorem toks_tk : ∀ (l a : List UInt8), Wd a → toks (a ++ l) = tk a l
  | [], a, hw => by rw [toks_flush hw (Or.inl rfl), toks_nil, tk, List.append_nil]
  | c :: r, a, hw => by
    rw [tk]
    by_cases hb : c = 32 ∨ c = 10
    · rw [if_pos hb, toks_flush hw (Or.inr ⟨c, r, rfl, by rcases hb with h | h; exact Or.inl h; exact Or.inr (Or.inl h)⟩), toks_blank hb, ← toks_tk r [] (fun c hc => by simp at hc)]
      rfl
    · by_cases hk : c = 40 ∨ c = 41
      · rw [if_neg hb, if_pos hk, toks_flush hw (Or.inr ⟨c, r, rfl, Or.inr (Or.inr hk)⟩), toks_bracket hk, ← toks_tk r [] (fun c hc => by simp at hc)]
        rfl
      · rw [if_neg hb, if_neg hk, ← toks_tk r (a ++ [c]) (fun d hd => by
          rcases List.mem_append.1 hd with hd | hd
          · exact hw d hd
          · rw [List.mem_singleton.1 hd]
            rintro (h | h | h)
            · exact hb (Or.inl h)
            · exact hb (Or.inr h)
            · exact hk h)]
        rw [List.append_assoc]
        rfl
/-- A text's words, sign by sign. -/
theorem toks_eq (l : List UInt8) : toks l = tk [] l := toks_tk l [] (fun c hc => by simp at hc)

/-- Blanks, and line feeds, around each bracket. -/
def spread : List UInt8 → List UInt8
  | [] => []
  | c :: r => (if c = 40 ∨ c = 41 then [32, c, 10] else [c]) ++ spread r
theorem flush_nil : flush [] = [] := rfl
theorem tk_spread : ∀ (l a : List UInt8), tk a (spread l) = tk a l
  | [], _ => rfl
  | c :: r, a => by
    rw [spread]
    by_cases hk : c = 40 ∨ c = 41
    · have hb : ¬ (c = 32 ∨ c = 10) := by rcases hk with rfl | rfl <;> decide
      rw [if_pos hk, List.cons_append, List.cons_append, List.cons_append, List.nil_append, tk, if_pos (by simp), tk, if_neg hb, if_pos hk, tk, if_pos (by simp), flush_nil, List.nil_append, List.nil_append, tk_spread r [], tk.eq_2, if_neg hb, if_pos hk]
    · rw [if_neg hk, List.singleton_append, tk, tk.eq_2, tk_spread r [], tk_spread r (a ++ [c])]
/-- Blanks are no matter. -/
theorem toks_spread (l : List UInt8) : toks (spread l) = toks l := by rw [toks_eq, toks_eq, tk_spread]

/-- What stands between two words. -/
def sepT (a b : List UInt8) : List UInt8 := if a = [40] ∨ b = [41] then [] else [32]
/-- Words as a text: one blank between, but none behind an opening bracket, nor ahead of a closing one. -/
def joinT : List (List UInt8) → List UInt8
  | [] => []
  | [a] => a
  | a :: b :: r => a ++ (sepT a b ++ joinT (b :: r))
/-- A word that may be written. -/
def Tok (a : List UInt8) : Prop := a = [40] ∨ a = [41] ∨ (a ≠ [] ∧ Wd a)
theorem joinT_head (b : List UInt8) (r : List (List UInt8)) : ∃ t, joinT (b :: r) = b ++ t := by
  cases r with
  | nil => exact ⟨[], by simp [joinT]⟩
  | cons c r => exact ⟨_, rfl⟩
theorem toks_join : ∀ (ts : List (List UInt8)), (∀ a ∈ ts, Tok a) → toks (joinT ts) = ts
  | [], _ => rfl
  | [a], h => by
    rw [joinT]
    rcases h a (by simp) with rfl | rfl | ⟨h1, h2⟩
    · exact toks_bracket (Or.inl rfl) []
    · exact toks_bracket (Or.inr rfl) []
    · have := toks_word (r := []) h1 h2 (Or.inl rfl)
      rw [List.append_nil] at this
      exact this
  | a :: b :: r, h => by
    have ih := toks_join (b :: r) (fun x hx => h x (by simp [hx]))
    have hsep : toks (sepT a b ++ joinT (b :: r)) = b :: r := by
      unfold sepT
      split
      · exact ih
      · rw [List.singleton_append, toks_blank (Or.inl rfl), ih]
    rw [joinT]
    rcases h a (by simp) with rfl | rfl | ⟨h1, h2⟩
    · rw [List.singleton_append, toks_bracket (Or.inl rfl), hsep]
    · rw [List.singleton_append, toks_bracket (Or.inr rfl), hsep]
    · rw [toks_word h1 h2 ?_, hsep]
      right
      unfold sepT
      by_cases hc : a = [40] ∨ b = [41]
      · rw [if_pos hc]
        have hb : b = [41] := by
          rcases hc with e | e
          · exact absurd (h2 40 (by rw [e]; simp)) (by simp [isE])
          · exact e
        obtain ⟨t, ht⟩ := joinT_head b r
        exact ⟨41, t, by rw [ht, hb]; rfl, by simp [isE]⟩
      · rw [if_neg hc]
        exact ⟨32, joinT (b :: r), rfl, by simp [isE]⟩
end Tmx
