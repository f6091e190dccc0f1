/-
  Terms and declarations as bytes, plainly: what is written, and what is read.
-/
import Derived.Test.YtcgpjihfligdbaaDoorPlain3
namespace Tmx
open Go.Deep

/-- One term more behind the others. -/
def snoc : F → Int × Int × F → F
  | .nil, x => .node 0 0 (x.1, x.2.1) x.2.2 .nil
  | .node b o a l r, x => .node b o a l (snoc r x)
theorem len_snoc : ∀ (f : F) (x : Int × Int × F), len (snoc f x) = len f + 1
  | .nil, _ => rfl
  | .node _ _ _ _ r, x => by rw [snoc, len, len_snoc r x, len]

/-- A number as a byte. -/
def b8 (x : Int) : UInt8 := UInt8.ofNat (x % 256).toNat
theorem b8_toNat (x : Int) : ((b8 x).toNat : Int) = x % 256 := by
  unfold b8
  rw [UInt8.toNat_ofNat']
  omega
theorem b8_of (x : Int) (h : 0 ≤ x) (h' : x < 256) : ((b8 x).toNat : Int) = x := by
  rw [b8_toNat]
  omega
theorem b8_byte (c : UInt8) : b8 (c.toNat : Int) = c := by
  have h := b8_toNat (c.toNat : Int)
  have hc := c.toNat_lt
  apply UInt8.toNat_inj.1
  omega

/-- Kinds whose number is written. -/
def numb (k : Int) : Bool := (k == 1 || k == 2) || k == 18
def headB (k n : Int) : List UInt8 := b8 k :: (if numb k = true then [b8 n] else [])
def bytesF : F → List UInt8
  | .nil => []
  | .node _ _ a l r => (headB a.1 a.2 ++ bytesF l) ++ bytesF r
/-- A term's bytes. -/
def bytesT (k n : Int) (f : F) : List UInt8 := headB k n ++ bytesF f
theorem bytesF_node (x y : Nat) (a : Int × Int) (l r : F) : bytesF (.node x y a l r) = bytesT a.1 a.2 l ++ bytesF r := rfl
theorem bytesF_snoc : ∀ (f : F) (x : Int × Int × F), bytesF (snoc f x) = bytesF f ++ bytesT x.1 x.2.1 x.2.2
  | .nil, x => by simp [snoc, bytesF, bytesT]
  | .node _ _ a l r, x => by rw [snoc, bytesF_node, bytesF_node, bytesF_snoc r x, List.append_assoc]
theorem headB_len (k n : Int) : (headB k n).length ≤ 2 := by
  unfold headB
  split <;> simp
theorem bytesF_len : ∀ (f : F), (bytesF f).length ≤ 2 * size f
  | .nil => by simp [bytesF, size]
  | .node _ _ a l r => by
    have h1 := headB_len a.1 a.2
    have h2 := bytesF_len l
    have h3 := bytesF_len r
    rw [bytesF_node, bytesT, size, List.length_append, List.length_append]
    omega
theorem bytesT_len (k n : Int) (f : F) : (bytesT k n f).length ≤ 2 * size f + 2 := by
  have h1 := headB_len k n
  have h2 := bytesF_len f
  rw [bytesT, List.length_append]
  omega

abbrev GotT := Except Int ((Int × Int × F) × List UInt8)
/-- So many terms that bytes begin with, behind others. -/
def argsG (g : List UInt8 → GotT) : Nat → F → List UInt8 → Except Int (F × List UInt8)
  | 0, A, l => .ok (A, l)
  | m + 1, A, l => match g l with
    | .error e => .error e
    | .ok xr => argsG g m (snoc A xr.1) xr.2
/-- A term of kind k and number n, of the arguments that bytes begin with. -/
def finR (k n : Int) : Except Int (F × List UInt8) → GotT
  | .error e => .error e
  | .ok ar => .ok ((k, n, ar.1), ar.2)
def finG (g : List UInt8 → GotT) (m : Nat) (k n : Int) (l : List UInt8) : GotT := finR k n (argsG g m .nil l)
/-- The same, of the number that stands first. -/
def numG (g : List UInt8 → GotT) (m : Nat) (k : Int) : List UInt8 → GotT
  | [] => .error 8
  | n :: r => finG g m k n.toNat r
/-- The term that bytes begin with, so many levels at most, and what is behind. -/
def getT : Nat → List UInt8 → GotT
  | 0, _ => .error 9
  | _ + 1, [] => .error 8
  | d + 1, c :: r =>
    if 1 ≤ (c.toNat : Int) ∧ (c.toNat : Int) ≤ 18 then
      (if numb c.toNat = true then numG (getT d) (shpL c.toNat).length c.toNat r
      else finG (getT d) (shpL c.toNat).length c.toNat 0 r)
    else .error 1

abbrev GotD := Except Int (List UInt8 × (Int × Int × F) × (Int × Int × F))
/-- The declaration that bytes are. -/
def getD : List UInt8 → GotD
  | [] => .error 8
  | c :: r => if r.length < c.toNat then .error 8 else
    match getT 24 (r.drop c.toNat) with
    | .error e => .error e
    | .ok x => match getT 24 x.2 with
      | .error e => .error e
      | .ok y => if 0 < y.2.length then .error 2 else .ok (r.take c.toNat, x.1, y.1)
/-- A declaration's bytes. -/
def declB (nm : List UInt8) (x y : Int × Int × F) : List UInt8 := ((b8 nm.length :: nm) ++ bytesT x.1 x.2.1 x.2.2) ++ bytesT y.1 y.2.1 y.2.2

/-! What is read was written. -/
theorem argsG_back {g : List UInt8 → GotT} (hg : ∀ l x r, g l = .ok (x, r) → l = bytesT x.1 x.2.1 x.2.2 ++ r) : ∀ (m : Nat) (A : F) (l : List UInt8) (B : F) (r : List UInt8), argsG g m A l = .ok (B, r) → ∃ bs, l = bs ++ r ∧ bytesF B = bytesF A ++ bs
  | 0, A, l, B, r, h => by
    simp only [argsG, Except.ok.injEq, Prod.mk.injEq] at h
    obtain ⟨rfl, rfl⟩ := h
    exact ⟨[], rfl, by simp⟩
  | m + 1, A, l, B, r, h => by
    rw [argsG] at h
    cases e : g l with
    | error e' => rw [e] at h; simp at h
    | ok xr =>
      rw [e] at h
      obtain ⟨bs, h1, h2⟩ := argsG_back hg m _ _ _ _ h
      refine ⟨bytesT xr.1.1 xr.1.2.1 xr.1.2.2 ++ bs, ?_, ?_⟩
      · rw [hg l xr.1 xr.2 e, h1, List.append_assoc]
      · rw [h2, bytesF_snoc, List.append_assoc]
theorem finG_back {g : List UInt8 → GotT} (hg : ∀ l x r, g l = .ok (x, r) → l = bytesT x.1 x.2.1 x.2.2 ++ r) {m : Nat} {k n : Int} {l : List UInt8} {x : Int × Int × F} {r : List UInt8} (h : finG g m k n l = .ok (x, r)) :
    x.1 = k ∧ x.2.1 = n ∧ l = bytesF x.2.2 ++ r := by
  unfold finG finR at h
  cases e : argsG g m .nil l with
  | error e' => rw [e] at h; simp at h
  | ok ar =>
    rw [e] at h
    simp only [Except.ok.injEq, Prod.mk.injEq] at h
    obtain ⟨rfl, rfl⟩ := h
    obtain ⟨bs, h1, h2⟩ := argsG_back hg m _ _ _ _ e
    refine ⟨rfl, rfl, ?_⟩
    rw [h1, h2]
    simp [bytesF]
theorem getT_back : ∀ (d : Nat) (l : List UInt8) (x : Int × Int × F) (r : List UInt8), getT d l = .ok (x, r) → l = bytesT x.1 x.2.1 x.2.2 ++ r
  | 0, l, x, r, h => by simp [getT] at h
  | d + 1, [], x, r, h => by simp [getT] at h
  | d + 1, c :: l, x, r, h => by
    rw [getT] at h
    split at h
    · rename_i hc
      split at h
      · rename_i hn
        cases l with
        | nil => simp [numG] at h
        | cons n l' =>
          rw [numG] at h
          obtain ⟨h1, h2, h3⟩ := finG_back (getT_back d) h
          rw [bytesT, h1, h2, headB, if_pos hn, b8_byte, b8_byte, h3]
          simp
      · rename_i hn
        obtain ⟨h1, h2, h3⟩ := finG_back (getT_back d) h
        rw [bytesT, h1, h2, headB, if_neg hn, b8_byte, h3]
        simp
    · simp at h
theorem getD_back {l nm : List UInt8} {x y : Int × Int × F} (h : getD l = .ok (nm, x, y)) : l = declB nm x y := by
  cases l with
  | nil => simp [getD] at h
  | cons c r =>
    rw [getD] at h
    split at h
    · simp at h
    · rename_i hlen
      cases e1 : getT 24 (r.drop c.toNat) with
      | error e' => rw [e1] at h; simp at h
      | ok x1 =>
        rw [e1] at h
        simp only at h
        cases e2 : getT 24 x1.2 with
        | error e' => rw [e2] at h; simp at h
        | ok y1 =>
          rw [e2] at h
          simp only at h
          split at h
          · simp at h
          · rename_i h0
            simp only [Except.ok.injEq, Prod.mk.injEq] at h
            obtain ⟨rfl, rfl, rfl⟩ := h
            have g1 := getT_back 24 _ x1.1 x1.2 e1
            have g2 := getT_back 24 _ y1.1 y1.2 e2
            have g3 : y1.2 = [] := List.eq_nil_of_length_eq_zero (by omega)
            rw [g3, List.append_nil] at g2
            unfold declB
            have hl : (r.take c.toNat).length = c.toNat := by rw [List.length_take]; omega
            rw [hl, b8_byte, ← g2, List.append_assoc, ← g1]
            simp

/-! What is written is read. -/
/-- The same terms, all idle numbers nought. -/
def zed : F → F
  | .nil => .nil
  | .node _ _ a l r => .node 0 0 a (zed l) (zed r)
theorem same_zed : ∀ (f : F), same f (zed f) = true
  | .nil => rfl
  | .node _ _ a l r => by simp [zed, same, same_zed l, same_zed r]
def app : F → F → F
  | .nil, g => g
  | .node b o a l r, g => .node b o a l (app r g)
theorem app_snoc : ∀ (A : F) (x : Int × Int × F) (g : F), app (snoc A x) g = app A (.node 0 0 (x.1, x.2.1) x.2.2 g)
  | .nil, _, _ => rfl
  | .node _ _ _ _ r, x, g => by rw [snoc, app, app, app_snoc r x g]
theorem app_nil : ∀ (A : F), app A .nil = A
  | .nil => rfl
  | .node _ _ _ _ r => by rw [app, app_nil r]

theorem tab_zero : ∀ (K : Fin 19), numb (K.val : Int) = false → least 300 300 (K.val : Int) = 1 := by decide
theorem least_plain (bound decls k : Int) (hn : numb k = false) : least bound decls k = 1 := by
  unfold numb at hn
  simp only [Bool.or_eq_false_iff, beq_eq_false_iff_ne, ne_eq] at hn
  unfold least
  rw [if_neg hn.1.1, if_neg hn.1.2, if_neg hn.2]
theorem least_le (bound decls k : Int) (hb' : bound ≤ 256) (hd : decls ≤ 256) : least bound decls k ≤ 256 := by
  unfold least
  repeat' split
  all_goals omega

/-- One level: of a right term, whose arguments are read again by so many levels. -/
theorem getT_level {d : Nat} {decls bound deep k n : Int} {f : F} (h : lookT decls bound deep k n f = 0) (hb' : bound ≤ 256) (hd : decls ≤ 256)
    (ih : ∀ r, argsG (getT d) (len f) .nil (bytesF f ++ r) = .ok (zed f, r)) (r : List UInt8) : getT (d + 1) (bytesT k n f ++ r) = .ok ((k, n, zed f), r) := by
  obtain ⟨_, ⟨g1, g2⟩, g3, ⟨g4, g5⟩, _⟩ := lookT_zero h
  have hl := least_le bound decls k hb' hd
  have ek : ((b8 k).toNat : Int) = k := b8_of k (by omega) (by omega)
  have en : ((b8 n).toNat : Int) = n := b8_of n g4 (by omega)
  have hfin : ∀ m : Int, finG (getT d) (shpL k).length k m (bytesF f ++ r) = .ok ((k, m, zed f), r) := by
    intro m
    unfold finG
    rw [← g3, ih r]
    rfl
  unfold bytesT headB
  by_cases hn : numb k = true
  · rw [if_pos hn]
    simp only [List.cons_append, List.nil_append, getT]
    rw [ek, if_pos ⟨g1, g2⟩, if_pos hn, numG, en]
    exact hfin n
  · rw [if_neg hn]
    simp only [List.cons_append, List.nil_append, getT]
    rw [ek, if_pos ⟨g1, g2⟩, if_neg hn]
    have : n = 0 := by
      have := least_plain bound decls k (by simpa using hn)
      omega
    rw [this]
    exact hfin 0
theorem argsG_there (decls : Int) (hd : decls ≤ 256) : ∀ (f : F) (bound deep k : Int) (i d : Nat), deep + d = 25 → bound + 2 * d ≤ 250 → lookF decls f bound deep k i = 0 → ∀ (A : F) (r : List UInt8), argsG (getT d) (len f) A (bytesF f ++ r) = .ok (app A (zed f), r)
  | .nil, _, _, _, _, _, _, _, _, A, r => by simp [len, bytesF, argsG, zed, app_nil]
  | .node x y a l rr, bound, deep, k, i, d, hdd, hb', h, A, r => by
    obtain ⟨h1, h2⟩ := lookF_zero h
    obtain ⟨g1, g2, g3, _, g5⟩ := lookT_zero h1
    obtain ⟨d', rfl⟩ : ∃ d', d = d' + 1 := ⟨d - 1, by omega⟩
    have hbd := bindsAt_bd k i
    have il := argsG_there decls hd l (bound + bindsAt k i) (deep + 1) a.1 0 d' (by omega) (by omega) g5 .nil
    have ir := argsG_there decls hd rr bound deep k (i + 1) (d' + 1) hdd hb' h2 (snoc A (a.1, a.2, zed l)) r
    have lv := getT_level (d := d') h1 (by omega) hd il (bytesF rr ++ r)
    rw [len, bytesF_node, List.append_assoc, argsG, lv]
    simp only
    rw [ir, app_snoc]
    rfl
theorem getT_there {k n : Int} {f : F} (h : wrongT 200 200 k n f = 0) (r : List UInt8) : getT 24 (bytesT k n f ++ r) = .ok ((k, n, zed f), r) := by
  obtain ⟨h1, _⟩ := wrong_zero h
  obtain ⟨_, _, _, _, g5⟩ := lookT_zero h1
  exact getT_level h1 (by omega) (by omega) (argsG_there 200 (by omega) f 200 2 k 0 23 (by omega) (by omega) g5 .nil) r
theorem getD_there {nm : List UInt8} {x y : Int × Int × F} (hn : nm.length < 256) (hx : wrongT 200 200 x.1 x.2.1 x.2.2 = 0) (hy : wrongT 200 200 y.1 y.2.1 y.2.2 = 0) :
    getD (declB nm x y) = .ok (nm, (x.1, x.2.1, zed x.2.2), (y.1, y.2.1, zed y.2.2)) := by
  have e : ((b8 nm.length).toNat : Int) = nm.length := b8_of _ (by omega) (by omega)
  have e' : (b8 nm.length).toNat = nm.length := by omega
  unfold declB
  simp only [List.cons_append, getD, e', List.append_assoc]
  rw [if_neg (by simp), List.drop_left, getT_there hx]
  simp only
  have := getT_there hy []
  rw [List.append_nil] at this
  rw [this]
  simp
end Tmx
