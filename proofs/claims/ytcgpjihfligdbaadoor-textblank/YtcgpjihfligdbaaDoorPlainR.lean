/-
  What is read is right, but for how much it is.
-/
import Derived.Test.YtcgpjihfligdbaaDoorPlainS
namespace Tmx
open Go Go.Deep

theorem fl_lt : ∀ (ns : List (List UInt8)) (w : List UInt8) (m i : Nat), fl ns w m = some i → i < m
  | _, _, 0, _, h => by simp [fl] at h
  | ns, w, m + 1, i, h => by
    rw [fl] at h
    split at h
    · have : m = i := by simpa using h
      omega
    · have := fl_lt ns w m i h
      omega
theorem lookT_leaf {decls bound deep k n : Int} (hd : deep ≤ 24) (hk : 1 ≤ k ∧ k ≤ 18) (hs : shpL k = []) (h0 : 0 ≤ n) (h1 : n < least bound decls k) : lookT decls bound deep k n .nil = 0 := by
  unfold lookT
  rw [if_neg (by omega), if_neg (by simp; exact hk), if_neg (by rw [hs]; simp [len]), if_neg (by omega), lookF]
theorem atom_right {ns ds : List (List UInt8)} {w : List UInt8} {x : Int × Int × F} {deep : Int} (hd : deep ≤ 24) (h : atomS ns ds w 0 = (x, 0)) : lookT ds.length ns.length deep x.1 x.2.1 x.2.2 = 0 ∧ x.2.2 = .nil := by
  unfold atomS at h
  split at h
  · unfold atomU at h
    split at h
    · rename_i n _
      split at h
      · split at h
        · simp [failE] at h
        · rename_i hn
          simp only [Prod.mk.injEq, and_true] at h
          subst h
          exact ⟨lookT_leaf hd ⟨by omega, by omega⟩ rfl (by show (0 : Int) ≤ n; omega) (by show n < least ns.length ds.length 2; simp [least]; omega), rfl⟩
      · simp [failE] at h
    · simp [failE] at h
  · unfold atomN at h
    split at h
    · rename_i hk
      split at h
      · rename_i hs
        simp only [Prod.mk.injEq, and_true] at h
        subst h
        have hle : kindOf w ≤ 17 := kf_le 15 w
        have h12 : kindOf w ≠ 1 ∧ kindOf w ≠ 2 ∧ kindOf w ≠ 18 := by
          have hkind : ∀ (n : Nat) (l : List UInt8), n ≤ 15 → kf n l = 0 ∨ 3 ≤ kf n l := by
            intro n
            induction n with
            | zero => intro l _; exact Or.inl rfl
            | succ n ih =>
              intro l hn
              rw [kf]
              split
              · right; omega
              · exact ih l (by omega)
          rcases hkind 15 w (by omega) with e | e
          · have : kindOf w = 0 := e
            omega
          · have : 3 ≤ kindOf w := e
            omega
        exact ⟨lookT_leaf hd ⟨by omega, by omega⟩ hs (by show (0 : Int) ≤ 0; omega) (by show (0 : Int) < least ns.length ds.length (kindOf w); unfold least; rw [if_neg h12.1, if_neg h12.2.1, if_neg h12.2.2]; omega), rfl⟩
      · simp [failE] at h
    · split at h
      · simp [failE] at h
      · unfold atomV at h
        split at h
        · rename_i i hi
          have := fl_lt _ _ _ _ hi
          simp only [Prod.mk.injEq, and_true] at h
          subst h
          exact ⟨lookT_leaf hd ⟨by omega, by omega⟩ rfl (by show (0 : Int) ≤ (ns.length : Int) - 1 - i; omega) (by show (ns.length : Int) - 1 - i < least ns.length ds.length 1; simp [least]; omega), rfl⟩
        · unfold atomD at h
          split at h
          · rename_i i hi
            have := fl_lt _ _ _ _ hi
            simp only [Prod.mk.injEq, and_true] at h
            subst h
            exact ⟨lookT_leaf hd ⟨by omega, by omega⟩ rfl (by show (0 : Int) ≤ (i : Int); omega) (by show (i : Int) < least ns.length ds.length 18; simp [least]; omega), rfl⟩
          · simp [failE] at h
theorem namesK_len : ∀ (m : Nat) (ns ts : List (List UInt8)) (p : List (List UInt8) × List (List UInt8)), namesK m ns ts = .ok p → p.1.length = ns.length + m
  | 0, ns, ts, p, h => by
    simp only [namesK, Except.ok.injEq] at h
    subst h
    rfl
  | m + 1, ns, [], p, h => by simp [namesK] at h
  | m + 1, ns, w :: r, p, h => by
    rw [namesK] at h
    split at h
    · rw [namesK_len m _ _ p h]
      simp
      omega
    · simp at h
theorem tab_head : ∀ K : Fin 19, (shpL (K.val : Int)).length ≤ 4 := by decide
theorem argsK_right {ds : List (List UInt8)} {d : Nat} {deep : Int} (hd : deep + d = 25) (hT : ∀ ns ts x r, ns.length ≤ 8 → termK ds d ns ts = .ok (x, r) → lookT ds.length ns.length deep x.1 x.2.1 x.2.2 = 0 ∧ boundF x.2.2 (shpL x.1) ns.length ≤ 8) {k : Int} (hk : 1 ≤ k ∧ k ≤ 18) :
    ∀ (c i : Nat) (A : F) (ns ts : List (List UInt8)) (B : F) (r : List (List UInt8)), i + c = (shpL k).length → ns.length ≤ 8 → argsK (termK ds d) ((shpL k).drop i) A ns ts = .ok (B, r) →
      ∃ C, B = app A C ∧ len C = c ∧ lookF ds.length C ns.length deep k i = 0 ∧ boundF C ((shpL k).drop i) ns.length ≤ 8
  | 0, i, A, ns, ts, B, r, hc, hn, h => by
    have : (shpL k).drop i = [] := List.drop_eq_nil_of_le (by omega)
    rw [this, argsK] at h
    simp only [Except.ok.injEq, Prod.mk.injEq] at h
    exact ⟨.nil, by rw [app_nil, h.1], rfl, rfl, hn⟩
  | c + 1, i, A, ns, ts, B, r, hc, hn, h => by
    have hi : i < (shpL k).length := by omega
    have hm := more_eq hk hi
    obtain ⟨e, sh, hsh⟩ : ∃ c sh, (shpL k).drop i = c :: sh := by
      cases e : (shpL k).drop i with
      | nil => have := congrArg List.length e; rw [List.length_drop] at this; simp at this; omega
      | cons c sh => exact ⟨c, sh, rfl⟩
    have hsh2 : (shpL k).drop (i + 1) = sh := by rw [← List.tail_drop, hsh]; rfl
    have hmc : more ((shpL k).drop i) = e.toNat - 48 := by rw [hsh]; rfl
    rw [hsh, argsK] at h
    cases hnm : namesK (e.toNat - 48) ns ts with
    | error x => rw [hnm, andX_error] at h; simp at h
    | ok p =>
      rw [hnm, andX_ok] at h
      have hpl := namesK_len _ _ _ _ hnm
      by_cases h8 : 8 < p.1.length
      · rw [if_pos h8] at h; simp at h
      · rw [if_neg h8] at h
        cases ht : termK ds d p.1 p.2 with
        | error x => rw [ht, andX_error] at h; simp at h
        | ok x =>
          rw [ht, andX_ok] at h
          obtain ⟨t1, t2⟩ := hT p.1 p.2 x.1 x.2 (by omega) ht
          rw [← hsh2] at h
          obtain ⟨C, c1, c2, c3, c4⟩ := argsK_right hd hT hk c (i + 1) _ ns x.2 B r (by omega) hn h
          have hb : ((p.1.length : Nat) : Int) = ns.length + bindsAt k i := by rw [hpl, ← hmc, ← hm]; omega
          rw [hb] at t1
          refine ⟨.node 0 0 (x.1.1, x.1.2.1) x.1.2.2 C, by rw [c1, app_snoc], by rw [len, c2], ?_, ?_⟩
          · rw [lookF_node, t1]
            simpa using c3
          · rw [boundF, hmc, ← hpl, List.tail_drop]
            exact Nat.max_le.2 ⟨t2, c4⟩
theorem headKT_kind (r : List (List UInt8)) : (1 ≤ headKT r ∧ headKT r ≤ 18) ∧ shpL (headKT r) ≠ [] := by
  unfold headKT
  split
  · rename_i h
    have : kindOf (hdT r) ≤ 17 := kf_le 15 _
    exact ⟨⟨by omega, by omega⟩, h.2⟩
  · exact ⟨⟨by omega, by omega⟩, by decide⟩
/-- What is read is right, but for how much it is, and no more are bound in it than may be. -/
theorem termK_right (ds : List (List UInt8)) : ∀ (d : Nat) (deep : Int), deep + d = 25 → ∀ (ns ts : List (List UInt8)) (x : Int × Int × F) (r : List (List UInt8)), ns.length ≤ 8 → termK ds d ns ts = .ok (x, r) → lookT ds.length ns.length deep x.1 x.2.1 x.2.2 = 0 ∧ boundF x.2.2 (shpL x.1) ns.length ≤ 8
  | 0, _, _, ns, ts, x, r, _, h => by simp [termK] at h
  | d + 1, deep, hd, ns, [], x, r, _, h => by simp [termK] at h
  | d + 1, deep, hd, ns, w :: t, x, r, hn, h => by
    rw [termK] at h
    split at h
    · obtain ⟨hk, hs⟩ := headKT_kind t
      cases ha : argsK (termK ds d) (shpL (headKT t)) .nil ns (headTT t) with
      | error e => rw [ha, closeK] at h; simp at h
      | ok a =>
        obtain ⟨A, us⟩ := a
        have ha' : argsK (termK ds d) ((shpL (headKT t)).drop 0) .nil ns (headTT t) = .ok (A, us) := by rw [List.drop_zero]; exact ha
        obtain ⟨C, c1, c2, c3, c4⟩ := argsK_right (deep := deep + 1) (by omega) (fun ns ts x r hn h => termK_right ds d (deep + 1) (by omega) ns ts x r hn h) hk (shpL (headKT t)).length 0 .nil ns (headTT t) A us (by omega) hn ha'
        rw [ha] at h
        have hx : x = (headKT t, 0, A) := by
          cases us with
          | nil => simp [closeK] at h
          | cons u us =>
            rw [closeK] at h
            split at h
            · simp only [Except.ok.injEq, Prod.mk.injEq] at h
              exact h.1.symm
            · simp at h
        subst hx
        have hA : A = C := c1
        subst hA
        rw [List.drop_zero] at c4
        refine ⟨?_, c4⟩
        show lookT ds.length ns.length deep (headKT t) 0 A = 0
        unfold lookT
        rw [if_neg (by omega), if_neg (by simp; exact hk), if_neg (by simp; exact c2), if_neg ?_]
        · exact c3
        · unfold least
          rw [if_neg (fun e => hs (by rw [e]; rfl)), if_neg (fun e => hs (by rw [e]; rfl)), if_neg (fun e => hs (by rw [e]; rfl))]
          omega
    · unfold atomK at h
      split at h
      · rename_i h0
        simp only [Except.ok.injEq, Prod.mk.injEq] at h
        have e : atomS ns ds w 0 = (x, 0) := Prod.ext h.1 h0
        obtain ⟨a1, a2⟩ := atom_right (deep := deep) (by omega) e
        exact ⟨a1, by rw [a2, boundF]; exact hn⟩
      · simp at h
end Tmx
