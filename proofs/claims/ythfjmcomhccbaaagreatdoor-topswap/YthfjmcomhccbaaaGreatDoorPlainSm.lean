/-
  A term as a text: its words, joined; what is written is read again.
-/
/-
  What is read is right, but for how much it is.
-/
import Derived.Test.YthfjmcomhccbaaaGreatDoorPlainPm
namespace Tmx
open Go Go.Deep

/-- A word that is no bracket. -/
def Plw (a : List UInt8) : Prop := a ≠ [] ∧ Wd a
theorem Plw.tok {a : List UInt8} (h : Plw a) : Tok a := Or.inr (Or.inr h)
theorem Plw.no40 {a : List UInt8} (h : Plw a) : a ≠ [40] := fun e => absurd (h.2 40 (by rw [e]; simp)) (by simp [isE])
theorem Plw.no41 {a : List UInt8} (h : Plw a) : a ≠ [41] := fun e => absurd (h.2 41 (by rw [e]; simp)) (by simp [isE])
theorem low_wd : ∀ {w : List UInt8}, lower w = true → Wd w
  | [], _, c, hc => by simp at hc
  | d :: r, h, c, hc => by
    simp only [lower, Bool.and_eq_true, decide_eq_true_eq] at h
    rcases List.mem_cons.1 hc with rfl | hc
    · have h1 := h.1.1
      rintro (e | e | e | e) <;> (rw [e] at h1; exact absurd h1 (by decide))
    · exact low_wd h.2 c hc
theorem name_plw {w : List UInt8} (h : nameB w = true) : Plw w := ⟨(name_low h).2.1, low_wd (name_low h).2.2⟩
theorem tab_wd : ∀ K : Fin 19, K.val ≠ 0 → K.val ≠ 1 → K.val ≠ 5 → K.val ≠ 18 → lower (wordL K.val) = true ∧ wordL K.val ≠ [] ∨ K.val = 2 := by decide
theorem word_plw {k : Int} (hk : 1 ≤ k ∧ k ≤ 18) (h1 : k ≠ 1) (h2 : k ≠ 2) (h5 : k ≠ 5) (h18 : k ≠ 18) : Plw (wordL k.toNat) := by
  obtain ⟨K, rfl⟩ := Int.eq_ofNat_of_zero_le (show 0 ≤ k by omega)
  rcases tab_wd ⟨K, by omega⟩ (by simp only; omega) (by simp only; omega) (by simp only; omega) (by simp only; omega) with ⟨a, b⟩ | e
  · exact ⟨b, low_wd a⟩
  · simp only at e; omega
theorem U_plw : ∀ M : Fin 4, ∀ c ∈ (85 :: [UInt8.ofNat (48 + M.val)] : List UInt8), ¬ (c = 32 ∨ c = 10 ∨ c = 40 ∨ c = 41) := by decide
theorem atomP_plw {ns ds : List (List UInt8)} (h : Good ns ds) {k n deep : Int} {f : F} (hl : lookT ds.length ns.length deep k n f = 0) (hs : shpL k = []) : Plw (atomP ds ns k n) := by
  obtain ⟨_, hk, _, ⟨g4, g5⟩, _⟩ := lookT_zero hl
  by_cases h1 : k = 1
  · subst h1
    exact name_plw (atom_var h g4 (by simpa [least] using g5)).2.2
  · by_cases h2 : k = 2
    · subst h2
      obtain ⟨m, rfl⟩ := Int.eq_ofNat_of_zero_le g4
      have hm : m < 4 := by
        have : (m : Int) < 4 := by simpa [least] using g5
        omega
      have hw : atomP ds ns 2 (m : Int) = 85 :: [UInt8.ofNat (48 + m)] := by
        unfold atomP
        rw [if_neg (by omega), if_neg (by omega), if_pos rfl, itoa4 ⟨m, hm⟩]
      rw [hw]
      exact ⟨by simp, U_plw ⟨m, hm⟩⟩
    · by_cases h3 : k = 18
      · subst h3
        exact name_plw (atom_def h g4 (by simpa [least] using g5)).2.2
      · have hw : atomP ds ns k n = wordL k.toNat := by unfold atomP; rw [if_neg h1, if_neg h3, if_neg h2]
        rw [hw]
        exact word_plw hk h1 h2 (fun e => by rw [e] at hs; simp [five_shape] at hs) h3
theorem xs_plw : ∀ (m i : Nat), i + m ≤ 26 → ∀ w ∈ xsOf m i, Plw w
  | 0, _, _, w, hw => by simp [xsOf] at hw
  | m + 1, i, h, w, hw => by
    rw [xsOf] at hw
    rcases List.mem_cons.1 hw with rfl | hw
    · exact name_plw (xname_name i (by omega))
    · exact xs_plw m (i + 1) (by omega) w hw

/-- What stands behind a word: each other one, and what stands ahead of it. -/
def jf : List UInt8 → List (List UInt8) → List UInt8
  | _, [] => []
  | p, t :: r => sepT p t ++ (t ++ jf t r)
def lastT : List UInt8 → List (List UInt8) → List UInt8
  | p, [] => p
  | _, t :: r => lastT t r
theorem joinT_jf : ∀ (r : List (List UInt8)) (a : List UInt8), joinT (a :: r) = a ++ jf a r
  | [], a => by simp [joinT, jf]
  | b :: r, a => by rw [joinT, jf, joinT_jf r b]
theorem jf_append : ∀ (xs ys : List (List UInt8)) (p : List UInt8), jf p (xs ++ ys) = jf p xs ++ jf (lastT p xs) ys
  | [], ys, p => rfl
  | x :: xs, ys, p => by rw [List.cons_append, jf, jf, jf_append xs ys x, lastT, List.append_assoc, List.append_assoc]
theorem lastT_append : ∀ (xs ys : List (List UInt8)) (p : List UInt8), lastT p (xs ++ ys) = lastT (lastT p xs) ys
  | [], _, _ => rfl
  | x :: xs, ys, p => by rw [List.cons_append, lastT, lastT, lastT_append xs ys x]

/-- Names, each behind a blank. -/
def xstr : List (List UInt8) → List UInt8
  | [] => []
  | w :: r => 32 :: (w ++ xstr r)
/-- The arguments of a shape, written behind something. -/
def prF (ds : List (List UInt8)) : F → List UInt8 → List (List UInt8) → List UInt8 → List UInt8
  | .nil, _, _, s => s
  | .node _ _ a l r, sh, ns, s =>
    prF ds r sh.tail ns ((if s ++ xstr (xsOf (more sh) ns.length) = [40] then s ++ xstr (xsOf (more sh) ns.length) else s ++ xstr (xsOf (more sh) ns.length) ++ [32]) ++
      (if shpL a.1 = [] then atomP ds (ns ++ xsOf (more sh) ns.length) a.1 a.2 else prF ds l (shpL a.1) (ns ++ xsOf (more sh) ns.length) (40 :: wordL a.1.toNat) ++ [41]))
/-- A term, written. -/
def prT (ds ns : List (List UInt8)) (k n : Int) (l : F) : List UInt8 := if shpL k = [] then atomP ds ns k n else prF ds l (shpL k) ns (40 :: wordL k.toNat) ++ [41]
theorem prF_node (ds : List (List UInt8)) (x y : Nat) (a : Int × Int) (l r : F) (sh : List UInt8) (ns : List (List UInt8)) (s : List UInt8) :
    prF ds (.node x y a l r) sh ns s = prF ds r sh.tail ns ((if s ++ xstr (xsOf (more sh) ns.length) = [40] then s ++ xstr (xsOf (more sh) ns.length) else s ++ xstr (xsOf (more sh) ns.length) ++ [32]) ++ prT ds (ns ++ xsOf (more sh) ns.length) a.1 a.2 l) := rfl
theorem jf_xs : ∀ (xs : List (List UInt8)) (p : List UInt8), p ≠ [40] → (∀ w ∈ xs, Plw w) → jf p xs = xstr xs
  | [], _, _, _ => rfl
  | w :: r, p, hp, h => by
    have hw := h w (by simp)
    rw [jf, xstr, sepT, if_neg (by rintro (e | e); exact hp e; exact hw.no41 e), jf_xs r w hw.no40 (fun x hx => h x (by simp [hx]))]
    rfl
theorem last_xs : ∀ (xs : List (List UInt8)) (p : List UInt8), p ≠ [40] → (∀ w ∈ xs, Plw w) → lastT p xs ≠ [40]
  | [], _, hp, _ => hp
  | w :: r, _, _, h => last_xs r w (h w (by simp)).no40 (fun x hx => h x (by simp [hx]))

/-- The words of a term: the first is no closing bracket, the last no opening one. -/
theorem ptT_cons {ns ds : List (List UInt8)} (h : Good ns ds) {k n deep : Int} {f : F} (hl : lookT ds.length ns.length deep k n f = 0) :
    ∃ t r, ptT ds ns k n f = t :: r ∧ t ≠ [41] ∧ t ≠ [] ∧ lastT t r ≠ [40] := by
  unfold ptT
  by_cases hs : shpL k = []
  · rw [if_pos hs]
    have := atomP_plw h hl hs
    exact ⟨_, [], rfl, this.no41, this.1, this.no40⟩
  · rw [if_neg hs]
    refine ⟨[40], _, rfl, by decide, by decide, ?_⟩
    rw [← List.append_assoc, lastT_append]
    show ([41] : List UInt8) ≠ [40]
    decide
theorem jf_close (q : List UInt8) : jf q [[41]] = [41] := by
  rw [jf, sepT, if_pos (Or.inr rfl)]
  rfl
/-- One level. -/
theorem prT_level {ns ds : List (List UInt8)} {k n deep : Int} {f : F} (hl : lookT ds.length ns.length deep k n f = 0)
    (ih : shpL k ≠ [] → ∀ s p, (p = [40] ↔ s = [40]) → (s = [40] → k = 5) → prF ds f (shpL k) ns s = s ++ jf p (ptF ds f (shpL k) ns)) :
    prT ds ns k n f = joinT (ptT ds ns k n f) := by
  obtain ⟨_, hk, _, _, _⟩ := lookT_zero hl
  unfold prT ptT
  by_cases hs : shpL k = []
  · rw [if_pos hs, if_pos hs]; rfl
  · rw [if_neg hs, if_neg hs]
    by_cases h5 : k = 5
    · rw [if_pos h5, List.nil_append, joinT_jf, jf_append, jf_close]
      have hw : wordL k.toNat = [] := by rw [h5]; rfl
      rw [hw, ih hs [40] [40] ⟨fun _ => rfl, fun _ => rfl⟩ (fun _ => h5), List.append_assoc]
    · have hw : Plw (wordL k.toNat) := word_plw hk (fun e => hs (by rw [e]; rfl)) (fun e => hs (by rw [e]; rfl)) h5 (fun e => hs (by rw [e]; rfl))
      have hne : (40 :: wordL k.toNat) ≠ [40] := fun e => hw.1 (by simpa using e)
      rw [if_neg h5, List.singleton_append, joinT_jf, jf, sepT, if_pos (Or.inl rfl), jf_append, jf_close, ih hs (40 :: wordL k.toNat) (wordL k.toNat) ⟨fun e => absurd e hw.no40, fun e => absurd e hne⟩ (fun e => absurd e hne)]
      simp
theorem xstr_ne {s : List UInt8} (hs : s ≠ [40]) (xs : List (List UInt8)) : s ++ xstr xs ≠ [40] := by
  cases xs with
  | nil => rw [xstr, List.append_nil]; exact hs
  | cons w r =>
    rw [xstr]
    intro e
    have hl := congrArg List.length e
    simp only [List.length_append, List.length_cons, List.length_nil] at hl
    have h0 : s = [] := List.eq_nil_of_length_eq_zero (by omega)
    rw [h0] at e
    simp at e
theorem prF_join (ds : List (List UInt8)) : ∀ (f : F) (ns : List (List UInt8)) (k deep : Int) (i : Nat) (s p : List UInt8), 1 ≤ k ∧ k ≤ 18 → lookF ds.length f ns.length deep k i = 0 → i + len f = (shpL k).length → boundF f ((shpL k).drop i) ns.length ≤ 8 → Good ns ds →
    (p = [40] ↔ s = [40]) → (s = [40] → k = 5) → prF ds f ((shpL k).drop i) ns s = s ++ jf p (ptF ds f ((shpL k).drop i) ns)
  | .nil, _, _, _, _, _, _, _, _, _, _, _, _, _ => by rw [prF, ptF, jf, List.append_nil]
  | .node x y a l r, ns, k, deep, i, s, p, hk, h, hlen, hb, hg, hps, h5 => by
    rw [len] at hlen
    have hi : i < (shpL k).length := by omega
    obtain ⟨h1, h2⟩ := lookF_zero h
    obtain ⟨_, g2, g3, _, g5⟩ := lookT_zero h1
    have hm := more_eq hk hi
    rw [boundF] at hb
    have hb1 := boundF_ge l (shpL a.1) (ns.length + more ((shpL k).drop i))
    have hg' := hg.adds (more ((shpL k).drop i)) (by omega)
    have hnl : (ns ++ xsOf (more ((shpL k).drop i)) ns.length).length = ns.length + more ((shpL k).drop i) := by rw [List.length_append, xsOf_len]
    have hbd : ((ns ++ xsOf (more ((shpL k).drop i)) ns.length).length : Int) = ns.length + bindsAt k i := by rw [hnl, ← hm]; omega
    rw [← hbd] at h1 g5
    have hxs := xs_plw (more ((shpL k).drop i)) ns.length (by omega)
    have lv := prT_level (ds := ds) h1 (fun _ s p hps h5 => by
      have := prF_join ds l (ns ++ xsOf (more ((shpL k).drop i)) ns.length) a.1 (deep + 1) 0 s p g2 g5 (by omega) (by rw [hnl, List.drop_zero]; omega) hg' hps h5
      rw [List.drop_zero] at this
      exact this)
    obtain ⟨t, tr, ht, ht1, ht0, htl⟩ := ptT_cons hg' h1
    rw [prF_node, ptF_node, lv, ht, List.tail_drop]
    have hq : lastT p (xsOf (more ((shpL k).drop i)) ns.length ++ (t :: tr)) ≠ [40] := by rw [lastT_append]; exact htl
    have hjl : 0 < (joinT (t :: tr)).length := by
      rw [joinT_jf, List.length_append]
      have := List.length_pos_iff.2 ht0
      omega
    by_cases hs : s = [40]
    · have hk5 := h5 hs
      have hm0 : more ((shpL k).drop i) = 0 := by
        have hb0 : bindsAt k i = 0 := by rw [hk5]; unfold bindsAt; rw [if_neg (by omega), if_neg (by omega)]
        omega
      rw [hm0] at hq ⊢
      rw [xsOf] at hq ⊢
      rw [xstr, List.append_nil, if_pos hs]
      have ir := prF_join ds r ns k deep (i + 1) (s ++ joinT (t :: tr)) (lastT p (t :: tr)) hk h2 (by omega) (by rw [← List.tail_drop]; omega) hg
        ⟨fun e => absurd e hq, fun e => by
          have := congrArg List.length e
          rw [List.length_append, hs] at this
          simp only [List.length_cons, List.length_nil] at this
          omega⟩ (fun e => by
          have := congrArg List.length e
          rw [List.length_append, hs] at this
          simp only [List.length_cons, List.length_nil] at this
          omega)
      rw [ir, List.nil_append, jf_append, jf, sepT, if_pos (Or.inl (hps.2 hs)), joinT_jf]
      simp
    · have hp : p ≠ [40] := fun e => hs (hps.1 e)
      have hs1 := xstr_ne hs (xsOf (more ((shpL k).drop i)) ns.length)
      rw [if_neg hs1]
      have hne : s ++ xstr (xsOf (more ((shpL k).drop i)) ns.length) ++ [32] ++ joinT (t :: tr) ≠ [40] := fun e => by
        have := congrArg List.length e
        simp only [List.length_append, List.length_cons, List.length_nil] at this
        omega
      have ir := prF_join ds r ns k deep (i + 1) (s ++ xstr (xsOf (more ((shpL k).drop i)) ns.length) ++ [32] ++ joinT (t :: tr)) (lastT p (xsOf (more ((shpL k).drop i)) ns.length ++ (t :: tr))) hk h2 (by omega) (by rw [← List.tail_drop]; omega) hg
        ⟨fun e => absurd e hq, fun e => absurd e hne⟩ (fun e => absurd e hne)
      have hlast := last_xs (xsOf (more ((shpL k).drop i)) ns.length) p hp hxs
      rw [ir, jf_append, jf_append (t :: tr), jf, sepT, if_neg (by rintro (e | e); exact hlast e; exact ht1 e), jf_xs _ p hp hxs, joinT_jf, lastT_append]
      simp
/-- A right term is written as its words, joined. -/
theorem prT_join {ns ds : List (List UInt8)} (hg : Good ns ds) {k n : Int} {f : F} (h1 : lookT ds.length ns.length 1 k n f = 0) (hb : boundF f (shpL k) ns.length ≤ 8) : prT ds ns k n f = joinT (ptT ds ns k n f) := by
  obtain ⟨_, g2, g3, _, g5⟩ := lookT_zero h1
  refine prT_level h1 fun _ s p hps h5 => ?_
  have := prF_join ds f ns k 2 0 s p g2 g5 (by omega) (by rw [List.drop_zero]; exact hb) hg hps h5
  rw [List.drop_zero] at this
  exact this
theorem ptF_tok (ds : List (List UInt8)) : ∀ (f : F) (ns : List (List UInt8)) (k deep : Int) (i : Nat), 1 ≤ k ∧ k ≤ 18 → lookF ds.length f ns.length deep k i = 0 → i + len f = (shpL k).length → boundF f ((shpL k).drop i) ns.length ≤ 8 → Good ns ds → ∀ w ∈ ptF ds f ((shpL k).drop i) ns, Tok w
  | .nil, _, _, _, _, _, _, _, _, _, w, hw => by simp [ptF] at hw
  | .node x y a l r, ns, k, deep, i, hk, h, hlen, hb, hg, w, hw => by
    rw [len] at hlen
    have hi : i < (shpL k).length := by omega
    obtain ⟨h1, h2⟩ := lookF_zero h
    obtain ⟨_, g2, g3, _, g5⟩ := lookT_zero h1
    have hm := more_eq hk hi
    rw [boundF] at hb
    have hb1 := boundF_ge l (shpL a.1) (ns.length + more ((shpL k).drop i))
    have hg' := hg.adds (more ((shpL k).drop i)) (by omega)
    have hnl : (ns ++ xsOf (more ((shpL k).drop i)) ns.length).length = ns.length + more ((shpL k).drop i) := by rw [List.length_append, xsOf_len]
    have hbd : ((ns ++ xsOf (more ((shpL k).drop i)) ns.length).length : Int) = ns.length + bindsAt k i := by rw [hnl, ← hm]; omega
    rw [← hbd] at h1 g5
    rw [ptF_node, List.tail_drop] at hw
    rcases List.mem_append.1 hw with hw | hw
    · exact (xs_plw _ _ (by omega) w hw).tok
    · rcases List.mem_append.1 hw with hw | hw
      · unfold ptT at hw
        split at hw
        · rename_i hs
          rw [List.mem_singleton.1 hw]
          exact (atomP_plw hg' h1 hs).tok
        · rename_i hs
          rcases List.mem_cons.1 hw with rfl | hw
          · exact Or.inl rfl
          · rcases List.mem_append.1 hw with hw | hw
            · split at hw
              · simp at hw
              · rename_i h5
                rw [List.mem_singleton.1 hw]
                exact (word_plw g2 (fun e => hs (by rw [e]; rfl)) (fun e => hs (by rw [e]; rfl)) h5 (fun e => hs (by rw [e]; rfl))).tok
            · rcases List.mem_append.1 hw with hw | hw
              · have := ptF_tok ds l (ns ++ xsOf (more ((shpL k).drop i)) ns.length) a.1 (deep + 1) 0 g2 g5 (by omega) (by rw [hnl, List.drop_zero]; omega) hg' w
                rw [List.drop_zero] at this
                exact this hw
              · rw [List.mem_singleton.1 hw]; exact Or.inr (Or.inl rfl)
      · exact ptF_tok ds r ns k deep (i + 1) hk h2 (by omega) (by rw [← List.tail_drop]; omega) hg w hw
theorem ptT_tok {ns ds : List (List UInt8)} (hg : Good ns ds) {k n : Int} {f : F} (h1 : lookT ds.length ns.length 1 k n f = 0) (hb : boundF f (shpL k) ns.length ≤ 8) : ∀ w ∈ ptT ds ns k n f, Tok w := by
  obtain ⟨_, g2, g3, _, g5⟩ := lookT_zero h1
  intro w hw
  unfold ptT at hw
  split at hw
  · rename_i hs
    rw [List.mem_singleton.1 hw]
    exact (atomP_plw hg h1 hs).tok
  · rename_i hs
    rcases List.mem_cons.1 hw with rfl | hw
    · exact Or.inl rfl
    · rcases List.mem_append.1 hw with hw | hw
      · split at hw
        · simp at hw
        · rename_i h5
          rw [List.mem_singleton.1 hw]
          exact (word_plw g2 (fun e => hs (by rw [e]; rfl)) (fun e => hs (by rw [e]; rfl)) h5 (fun e => hs (by rw [e]; rfl))).tok
      · rcases List.mem_append.1 hw with hw | hw
        · have := ptF_tok ds f ns k 2 0 g2 g5 (by omega) (by rw [List.drop_zero]; exact hb) hg w
          rw [List.drop_zero] at this
          exact this hw
        · rw [List.mem_singleton.1 hw]; exact Or.inr (Or.inl rfl)
/-- A right term that is written is read again. -/
theorem read_written {ns ds : List (List UInt8)} (hg : Good ns ds) {k n : Int} {f : F} (h1 : lookT ds.length ns.length 1 k n f = 0) (hb : boundF f (shpL k) ns.length ≤ 8) : termK ds 24 ns (toks (prT ds ns k n f)) = .ok ((k, n, zed f), []) := by
  rw [prT_join hg h1 hb, toks_join _ (ptT_tok hg h1 hb)]
  have := termK_print hg h1 hb []
  rw [List.append_nil] at this
  exact this

/-- What a text is, by its words. -/
def endK : GotK → Except Int (Int × Int × F)
  | .error e => .error e
  | .ok (x, []) => .ok x
  | .ok (_, _ :: _) => .error 2
/-- The text's answer: a term and OK, or nothing and an error. -/
def ansK : Except Int (Int × Int × F) → (Int × Int × F) × Int
  | .error e => ((0, 0, .nil), e)
  | .ok x => (x, 0)
def parseK (ds ns : List (List UInt8)) (l : List UInt8) : Except Int (Int × Int × F) :=
  if 1500 < l.length then .error 4 else if 8 < ns.length then .error 5 else endK (termK ds 24 ns (toks l))
end Tmx

namespace Tmx
open Go Go.Deep

theorem fl_lt : ∀ (ns : List (List UInt8)) (w : List UInt8) (m i : Nat), fl ns w m = some i → i < m
  | _, _, 0, _, h => by simp [fl] at h
  | ns, w, m + 1, i, h => by
    rw [fl] at h
    split at h
    · have : m = i := by simpa using h
      omega
    · have := fl_lt ns w m i h
      omega
theorem lookT_leaf {decls bound deep k n : Int} (hd : deep ≤ 24) (hk : 1 ≤ k ∧ k ≤ 18) (hs : shpL k = []) (h0 : 0 ≤ n) (h1 : n < least bound decls k) : lookT decls bound deep k n .nil = 0 := by
  unfold lookT
  rw [if_neg (by omega), if_neg (by simp; exact hk), if_neg (by rw [hs]; simp [len]), if_neg (by omega), lookF]
theorem atom_right {ns ds : List (List UInt8)} {w : List UInt8} {x : Int × Int × F} {deep : Int} (hd : deep ≤ 24) (h : atomS ns ds w 0 = (x, 0)) : lookT ds.length ns.length deep x.1 x.2.1 x.2.2 = 0 ∧ x.2.2 = .nil := by
  unfold atomS at h
  split at h
  · unfold atomU at h
    split at h
    · rename_i n _
      split at h
      · split at h
        · simp [failE] at h
        · rename_i hn
          simp only [Prod.mk.injEq, and_true] at h
          subst h
          exact ⟨lookT_leaf hd ⟨by omega, by omega⟩ rfl (by show (0 : Int) ≤ n; omega) (by show n < least ns.length ds.length 2; simp [least]; omega), rfl⟩
      · simp [failE] at h
    · simp [failE] at h
  · unfold atomN at h
    split at h
    · rename_i hk
      split at h
      · rename_i hs
        simp only [Prod.mk.injEq, and_true] at h
        subst h
        have hle : kindOf w ≤ 17 := kf_le 15 w
        have h12 : kindOf w ≠ 1 ∧ kindOf w ≠ 2 ∧ kindOf w ≠ 18 := by
          have hkind : ∀ (n : Nat) (l : List UInt8), n ≤ 15 → kf n l = 0 ∨ 3 ≤ kf n l := by
            intro n
            induction n with
            | zero => intro l _; exact Or.inl rfl
            | succ n ih =>
              intro l hn
              rw [kf]
              split
              · right; omega
              · exact ih l (by omega)
          rcases hkind 15 w (by omega) with e | e
          · have : kindOf w = 0 := e
            omega
          · have : 3 ≤ kindOf w := e
            omega
        exact ⟨lookT_leaf hd ⟨by omega, by omega⟩ hs (by show (0 : Int) ≤ 0; omega) (by show (0 : Int) < least ns.length ds.length (kindOf w); unfold least; rw [if_neg h12.1, if_neg h12.2.1, if_neg h12.2.2]; omega), rfl⟩
      · simp [failE] at h
    · split at h
      · simp [failE] at h
      · unfold atomV at h
        split at h
        · rename_i i hi
          have := fl_lt _ _ _ _ hi
          simp only [Prod.mk.injEq, and_true] at h
          subst h
          exact ⟨lookT_leaf hd ⟨by omega, by omega⟩ rfl (by show (0 : Int) ≤ (ns.length : Int) - 1 - i; omega) (by show (ns.length : Int) - 1 - i < least ns.length ds.length 1; simp [least]; omega), rfl⟩
        · unfold atomD at h
          split at h
          · rename_i i hi
            have := fl_lt _ _ _ _ hi
            simp only [Prod.mk.injEq, and_true] at h
            subst h
            exact ⟨lookT_leaf hd ⟨by omega, by omega⟩ rfl (by show (0 : Int) ≤ (i : Int); omega) (by show (i : Int) < least ns.length ds.length 18; simp [least]; omega), rfl⟩
          · simp [failE] at h
theorem namesK_len : ∀ (m : Nat) (ns ts : List (List UInt8)) (p : List (List UInt8) × List (List UInt8)), namesK m ns ts = .ok p → p.1.length = ns.length + m
  | 0, ns, ts, p, h => by
    simp only [namesK, Except.ok.injEq] at h
    subst h
    rfl
  | m + 1, ns, [], p, h => by simp [namesK] at h
  | m + 1, ns, w :: r, p, h => by
    rw [namesK] at h
    split at h
    · rw [namesK_len m _ _ p h]
      simp
      omega
    · simp at h
theorem tab_head : ∀ K : Fin 19, (shpL (K.val : Int)).length ≤ 4 := by decide
theorem argsK_right {ds : List (List UInt8)} {d : Nat} {deep : Int} (hd : deep + d = 25) (hT : ∀ ns ts x r, ns.length ≤ 8 → termK ds d ns ts = .ok (x, r) → lookT ds.length ns.length deep x.1 x.2.1 x.2.2 = 0 ∧ boundF x.2.2 (shpL x.1) ns.length ≤ 8) {k : Int} (hk : 1 ≤ k ∧ k ≤ 18) :
    ∀ (c i : Nat) (A : F) (ns ts : List (List UInt8)) (B : F) (r : List (List UInt8)), i + c = (shpL k).length → ns.length ≤ 8 → argsK (termK ds d) ((shpL k).drop i) A ns ts = .ok (B, r) →
      ∃ C, B = app A C ∧ len C = c ∧ lookF ds.length C ns.length deep k i = 0 ∧ boundF C ((shpL k).drop i) ns.length ≤ 8
  | 0, i, A, ns, ts, B, r, hc, hn, h => by
    have : (shpL k).drop i = [] := List.drop_eq_nil_of_le (by omega)
    rw [this, argsK] at h
    simp only [Except.ok.injEq, Prod.mk.injEq] at h
    exact ⟨.nil, by rw [app_nil, h.1], rfl, rfl, hn⟩
  | c + 1, i, A, ns, ts, B, r, hc, hn, h => by
    have hi : i < (shpL k).length := by omega
    have hm := more_eq hk hi
    obtain ⟨e, sh, hsh⟩ : ∃ c sh, (shpL k).drop i = c :: sh := by
      cases e : (shpL k).drop i with
      | nil => have := congrArg List.length e; rw [List.length_drop] at this; simp at this; omega
      | cons c sh => exact ⟨c, sh, rfl⟩
    have hsh2 : (shpL k).drop (i + 1) = sh := by rw [← List.tail_drop, hsh]; rfl
    have hmc : more ((shpL k).drop i) = e.toNat - 48 := by rw [hsh]; rfl
    rw [hsh, argsK] at h
    cases hnm : namesK (e.toNat - 48) ns ts with
    | error x => rw [hnm, andX_error] at h; simp at h
    | ok p =>
      rw [hnm, andX_ok] at h
      have hpl := namesK_len _ _ _ _ hnm
      by_cases h8 : 8 < p.1.length
      · rw [if_pos h8] at h; simp at h
      · rw [if_neg h8] at h
        cases ht : termK ds d p.1 p.2 with
        | error x => rw [ht, andX_error] at h; simp at h
        | ok x =>
          rw [ht, andX_ok] at h
          obtain ⟨t1, t2⟩ := hT p.1 p.2 x.1 x.2 (by omega) ht
          rw [← hsh2] at h
          obtain ⟨C, c1, c2, c3, c4⟩ := argsK_right hd hT hk c (i + 1) _ ns x.2 B r (by omega) hn h
          have hb : ((p.1.length : Nat) : Int) = ns.length + bindsAt k i := by rw [hpl, ← hmc, ← hm]; omega
          rw [hb] at t1
          refine ⟨.node 0 0 (x.1.1, x.1.2.1) x.1.2.2 C, by rw [c1, app_snoc], by rw [len, c2], ?_, ?_⟩
          · rw [lookF_node, t1]
            simpa using c3
          · rw [boundF, hmc, ← hpl, List.tail_drop]
            exact Nat.max_le.2 ⟨t2, c4⟩
theorem headKT_kind (r : List (List UInt8)) : (1 ≤ headKT r ∧ headKT r ≤ 18) ∧ shpL (headKT r) ≠ [] := by
  unfold headKT
  split
  · rename_i h
    have : kindOf (hdT r) ≤ 17 := kf_le 15 _
    exact ⟨⟨by omega, by omega⟩, h.2⟩
  · exact ⟨⟨by omega, by omega⟩, by decide⟩
/-- What is read is right, but for how much it is, and no more are bound in it than may be. -/
theorem termK_right (ds : List (List UInt8)) : ∀ (d : Nat) (deep : Int), deep + d = 25 → ∀ (ns ts : List (List UInt8)) (x : Int × Int × F) (r : List (List UInt8)), ns.length ≤ 8 → termK ds d ns ts = .ok (x, r) → lookT ds.length ns.length deep x.1 x.2.1 x.2.2 = 0 ∧ boundF x.2.2 (shpL x.1) ns.length ≤ 8
  | 0, _, _, ns, ts, x, r, _, h => by simp [termK] at h
  | d + 1, deep, hd, ns, [], x, r, _, h => by simp [termK] at h
  | d + 1, deep, hd, ns, w :: t, x, r, hn, h => by
    rw [termK] at h
    split at h
    · obtain ⟨hk, hs⟩ := headKT_kind t
      cases ha : argsK (termK ds d) (shpL (headKT t)) .nil ns (headTT t) with
      | error e => rw [ha, closeK] at h; simp at h
      | ok a =>
        obtain ⟨A, us⟩ := a
        have ha' : argsK (termK ds d) ((shpL (headKT t)).drop 0) .nil ns (headTT t) = .ok (A, us) := by rw [List.drop_zero]; exact ha
        obtain ⟨C, c1, c2, c3, c4⟩ := argsK_right (deep := deep + 1) (by omega) (fun ns ts x r hn h => termK_right ds d (deep + 1) (by omega) ns ts x r hn h) hk (shpL (headKT t)).length 0 .nil ns (headTT t) A us (by omega) hn ha'
        rw [ha] at h
        have hx : x = (headKT t, 0, A) := by
          cases us with
          | nil => simp [closeK] at h
          | cons u us =>
            rw [closeK] at h
            split at h
            · simp only [Except.ok.injEq, Prod.mk.injEq] at h
              exact h.1.symm
            · simp at h
        subst hx
        have hA : A = C := c1
        subst hA
        rw [List.drop_zero] at c4
        refine ⟨?_, c4⟩
        show lookT ds.length ns.length deep (headKT t) 0 A = 0
        unfold lookT
        rw [if_neg (by omega), if_neg (by simp; exact hk), if_neg (by simp; exact c2), if_neg ?_]
        · exact c3
        · unfold least
          rw [if_neg (fun e => hs (by rw [e]; rfl)), if_neg (fun e => hs (by rw [e]; rfl)), if_neg (fun e => hs (by rw [e]; rfl))]
          omega
    · unfold atomK at h
      split at h
      · rename_i h0
        simp only [Except.ok.injEq, Prod.mk.injEq] at h
        have e : atomS ns ds w 0 = (x, 0) := Prod.ext h.1 h0
        obtain ⟨a1, a2⟩ := atom_right (deep := deep) (by omega) e
        exact ⟨a1, by rw [a2, boundF]; exact hn⟩
      · simp at h
end Tmx
