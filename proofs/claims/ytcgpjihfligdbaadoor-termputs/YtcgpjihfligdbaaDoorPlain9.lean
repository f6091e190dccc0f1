/-
  Two that are put, one behind the other, plainly.
-/
import Derived.Test.YtcgpjihfligdbaaDoorPlain8
import Derived.Test.YtcgpjihfligdbaaDoorPlain7
namespace Tmx
open Go.Deep

/-- A term in which each variable is what g makes of it. -/
def mapX (g : Fn2) (x : Int × Int × F) (within : Int) : Int × Int × F := mapT g x.1 x.2.1 x.2.2 within
/-- What swap makes of a variable. -/
def swapG : Fn2 := fun n within => (1, if n = within then within + 1 else if n = within + 1 then within else n, .nil)

theorem mapX_one (g : Fn2) (n : Int) (l : F) (w : Int) : mapX g (1, n, l) w = g n w := by unfold mapX; exact mapT_one g n l w
theorem mapX_else (g : Fn2) {x : Int × Int × F} (hk : ¬ x.1 = 1) (w : Int) : mapX g x w = (x.1, x.2.1, mapF g x.2.2 w x.1 0) := by unfold mapX; exact mapT_else g hk _ _ w
theorem mapF_nodeX (g : Fn2) (x y : Nat) (a : Int × Int) (l r : F) (within k : Int) (i : Nat) :
    mapF g (.node x y a l r) within k i = .node 0 0 ((mapX g (a.1, a.2, l) (within + bindsAt k i)).1, (mapX g (a.1, a.2, l) (within + bindsAt k i)).2.1) (mapX g (a.1, a.2, l) (within + bindsAt k i)).2.2 (mapF g r within k (i + 1)) := by
  rw [mapF_node]
  rfl

/-- Two ways to the same at each variable are two ways to the same. -/
theorem mapF_two {g1 g2 g3 g4 : Fn2} {d e : Int} (h : ∀ n c, 0 ≤ c → mapX g2 (g1 n c) (c + d) = mapX g4 (g3 n c) (c + e)) :
    ∀ (f : F) (c k : Int) (i : Nat), 0 ≤ c → mapF g2 (mapF g1 f c k i) (c + d) k i = mapF g4 (mapF g3 f c k i) (c + e) k i
  | .nil, _, _, _, _ => by rw [mapF, mapF, mapF, mapF]
  | .node x y a l r, c, k, i, hc => by
    have hb := bindsAt_bd k i
    rw [mapF_nodeX g1, mapF_nodeX g3, mapF_nodeX g2, mapF_nodeX g4, mapF_two h r c k (i + 1) hc]
    have e1 : c + d + bindsAt k i = c + bindsAt k i + d := by omega
    have e2 : c + e + bindsAt k i = c + bindsAt k i + e := by omega
    rw [e1, e2]
    have key : mapX g2 (mapX g1 (a.1, a.2, l) (c + bindsAt k i)) (c + bindsAt k i + d) = mapX g4 (mapX g3 (a.1, a.2, l) (c + bindsAt k i)) (c + bindsAt k i + e) := by
      by_cases ha : a.1 = 1
      · rw [ha, mapX_one, mapX_one]
        exact h a.2 _ (by omega)
      · rw [mapX_else g1 (x := (a.1, a.2, l)) ha, mapX_else g3 (x := (a.1, a.2, l)) ha, mapX_else g2 (x := (a.1, a.2, mapF g1 l (c + bindsAt k i) a.1 0)) ha, mapX_else g4 (x := (a.1, a.2, mapF g3 l (c + bindsAt k i) a.1 0)) ha]
        dsimp only
        rw [mapF_two h l _ _ _ (by omega)]
    show BT.node 0 0 ((mapX g2 (mapX g1 (a.1, a.2, l) (c + bindsAt k i)) (c + bindsAt k i + d)).1, (mapX g2 (mapX g1 (a.1, a.2, l) (c + bindsAt k i)) (c + bindsAt k i + d)).2.1) (mapX g2 (mapX g1 (a.1, a.2, l) (c + bindsAt k i)) (c + bindsAt k i + d)).2.2 _ = _
    rw [key]
theorem mapX_two {g1 g2 g3 g4 : Fn2} {d e : Int} (h : ∀ n c, 0 ≤ c → mapX g2 (g1 n c) (c + d) = mapX g4 (g3 n c) (c + e)) (x : Int × Int × F) (c : Int) (hc : 0 ≤ c) :
    mapX g2 (mapX g1 x c) (c + d) = mapX g4 (mapX g3 x c) (c + e) := by
  by_cases ha : x.1 = 1
  · obtain ⟨k, n, l⟩ := x
    dsimp only at ha
    subst ha
    rw [mapX_one, mapX_one]
    exact h n c hc
  · rw [mapX_else g1 ha, mapX_else g3 ha, mapX_else g2 (x := (x.1, x.2.1, mapF g1 x.2.2 c x.1 0)) ha, mapX_else g4 (x := (x.1, x.2.1, mapF g3 x.2.2 c x.1 0)) ha]
    dsimp only
    rw [mapF_two h _ _ _ _ hc]
/-- What leaves each variable as it is. -/
def idG : Fn2 := fun n _ => (1, n, .nil)
theorem idF_map (g : Fn2) (e : Int) (h : ∀ n c, 0 ≤ c → mapX idG (g n c) (c + e) = g n c) : ∀ (f : F) (c k : Int) (i : Nat), 0 ≤ c → mapF idG (mapF g f c k i) (c + e) k i = mapF g f c k i
  | .nil, _, _, _, _ => by rw [mapF, mapF]
  | .node x y a l r, c, k, i, hc => by
    have hb := bindsAt_bd k i
    have e1 : c + e + bindsAt k i = c + bindsAt k i + e := by omega
    have key : mapX idG ((mapX g (a.1, a.2, l) (c + bindsAt k i)).1, (mapX g (a.1, a.2, l) (c + bindsAt k i)).2.1, (mapX g (a.1, a.2, l) (c + bindsAt k i)).2.2) (c + bindsAt k i + e) = mapX g (a.1, a.2, l) (c + bindsAt k i) := by
      show mapX idG (mapX g (a.1, a.2, l) (c + bindsAt k i)) (c + bindsAt k i + e) = mapX g (a.1, a.2, l) (c + bindsAt k i)
      by_cases ha : a.1 = 1
      · rw [ha, mapX_one]
        exact h a.2 _ (by omega)
      · rw [mapX_else g (x := (a.1, a.2, l)) ha, mapX_else idG (x := (a.1, a.2, mapF g l (c + bindsAt k i) a.1 0)) ha]
        dsimp only
        rw [idF_map g e h l _ _ _ (by omega)]
    rw [mapF_nodeX g, mapF_nodeX idG, e1, key, idF_map g e h r c k (i + 1) hc]
theorem idX_map (g : Fn2) (e : Int) (h : ∀ n c, 0 ≤ c → mapX idG (g n c) (c + e) = g n c) (x : Int × Int × F) (c : Int) (hc : 0 ≤ c) : mapX idG (mapX g x c) (c + e) = mapX g x c := by
  by_cases ha : x.1 = 1
  · obtain ⟨k, n, l⟩ := x
    dsimp only at ha
    subst ha
    rw [mapX_one]
    exact h n c hc
  · rw [mapX_else g ha, mapX_else idG (x := (x.1, x.2.1, mapF g x.2.2 c x.1 0)) ha]
    dsimp only
    rw [idF_map g e h _ _ _ _ hc]
theorem id_lift (b last : Int) (e : Int) (x : Int × Int × F) (c : Int) (hc : 0 ≤ c) : mapX idG (mapX (liftG b last) x c) (c + e) = mapX (liftG b last) x c :=
  idX_map _ e (fun n c _ => by unfold liftG; rw [mapX_one]; rfl) x c hc

/-- Lifted from 0 on, then lifted by more where so many are bound. -/
theorem lift_lift_at (a b : Int) (ha : 0 ≤ a) (x : Int × Int × F) (c : Int) (hc : 0 ≤ c) : mapX (liftG b 0) (mapX (liftG a 0) x c) (c + a) = mapX (liftG (a + b) 0) x c := by
  have h := mapX_two (g1 := liftG a 0) (g2 := liftG b 0) (g3 := liftG (a + b) 0) (g4 := idG) (d := a) (e := 0) (fun n c _ => ?_) x c hc
  · rw [h, id_lift _ _ _ _ _ hc]
  · unfold liftG
    rw [mapX_one, mapX_one]
    unfold idG
    by_cases h0 : 0 ≤ n - c
    · rw [if_pos h0, if_pos h0, if_pos (by omega)]
      rw [show n + a + b = n + (a + b) by omega]
    · rw [if_neg h0, if_neg h0, if_neg (by omega)]
theorem lift_lift_at' (c : Int) (v : Int × Int × F) : mapX (liftG c 0) (mapX (liftG 1 0) v 0) 0 = mapX (liftG (c + 1) 0) v 0 := by
  have h := mapX_two (g1 := liftG 1 0) (g2 := liftG c 0) (g3 := liftG (c + 1) 0) (g4 := idG) (d := 0) (e := 0) (fun n w _ => ?_) v 0 (by omega)
  · rw [id_lift _ _ _ _ _ (by omega)] at h
    exact h
  · unfold liftG
    rw [mapX_one, mapX_one]
    unfold idG
    by_cases h0 : 0 ≤ n - w
    · rw [if_pos h0, if_pos h0, if_pos (by omega)]
      rw [show n + 1 + c = n + (c + 1) by omega]
    · rw [if_neg h0, if_neg h0, if_neg (by omega)]
/-- What is put where nothing of it is used. -/
theorem put_lift_at (uk un : Int) (uf : F) (a : Int) (ha : 0 ≤ a) (x : Int × Int × F) (c : Int) (hc : 0 ≤ c) : mapX (putG uk un uf) (mapX (liftG (a + 1) 0) x c) (c + a) = mapX (liftG a 0) x c := by
  have h := mapX_two (g1 := liftG (a + 1) 0) (g2 := putG uk un uf) (g3 := liftG a 0) (g4 := idG) (d := a) (e := 0) (fun n c _ => ?_) x c hc
  · rw [h, id_lift _ _ _ _ _ hc]
  · unfold liftG
    rw [mapX_one, mapX_one]
    unfold putG idG
    by_cases h0 : 0 ≤ n - c
    · rw [if_pos h0, if_pos h0, if_neg (by omega), if_pos (by omega)]
      rw [show n + (a + 1) - 1 = n + a by omega]
    · rw [if_neg h0, if_neg h0, if_neg (by omega), if_neg (by omega)]
/-- What is put into what is lifted is what is put, lifted. -/
theorem lift_put (v : Int × Int × F) (a : Int) (ha : 0 ≤ a) (x : Int × Int × F) (c : Int) (hc : 0 ≤ c) :
    mapX (putG v.1 v.2.1 v.2.2) (mapX (liftG a 0) x c) (c + a) = mapX (liftG a 0) (mapX (putG v.1 v.2.1 v.2.2) x c) c := by
  have h := mapX_two (g1 := liftG a 0) (g2 := putG v.1 v.2.1 v.2.2) (g3 := putG v.1 v.2.1 v.2.2) (g4 := liftG a 0) (d := a) (e := 0) (fun n c hc => ?_) x c hc
  · rw [h, Int.add_zero]
  · rw [Int.add_zero]
    unfold liftG
    rw [mapX_one]
    by_cases h0 : n = c
    · subst h0
      rw [if_pos (by omega)]
      unfold putG
      rw [if_pos rfl, if_pos rfl]
      have := lift_lift_at n a hc v 0 (by omega)
      unfold mapX at this ⊢
      rw [Int.zero_add] at this
      exact this.symm
    · by_cases h1 : c < n
      · rw [if_pos (by omega)]
        unfold putG
        rw [if_neg (by omega), if_pos (by omega), if_neg h0, if_pos h1, mapX_one]
        rw [if_pos (by omega), show n + a - 1 = n - 1 + a by omega]
      · rw [if_neg (by omega)]
        unfold putG
        rw [if_neg (by omega), if_neg (by omega), if_neg h0, if_neg h1, mapX_one]
        rw [if_neg (by omega)]

/-- The same with three on the one side. -/
theorem mapF_three {g1 g2 g3 g4 g5 : Fn2} (h : ∀ n c, 0 ≤ c → mapX g2 (g1 n c) c = mapX g5 (mapX g4 (g3 n c) c) c) :
    ∀ (f : F) (c k : Int) (i : Nat), 0 ≤ c → mapF g2 (mapF g1 f c k i) c k i = mapF g5 (mapF g4 (mapF g3 f c k i) c k i) c k i
  | .nil, _, _, _, _ => by rw [mapF, mapF, mapF, mapF, mapF]
  | .node x y a l r, c, k, i, hc => by
    have hb := bindsAt_bd k i
    have key : mapX g2 (mapX g1 (a.1, a.2, l) (c + bindsAt k i)) (c + bindsAt k i) = mapX g5 (mapX g4 (mapX g3 (a.1, a.2, l) (c + bindsAt k i)) (c + bindsAt k i)) (c + bindsAt k i) := by
      by_cases ha : a.1 = 1
      · rw [ha, mapX_one, mapX_one]
        exact h a.2 _ (by omega)
      · rw [mapX_else g1 (x := (a.1, a.2, l)) ha, mapX_else g3 (x := (a.1, a.2, l)) ha, mapX_else g2 (x := (a.1, a.2, mapF g1 l (c + bindsAt k i) a.1 0)) ha, mapX_else g4 (x := (a.1, a.2, mapF g3 l (c + bindsAt k i) a.1 0)) ha,
          mapX_else g5 (x := (a.1, a.2, mapF g4 (mapF g3 l (c + bindsAt k i) a.1 0) (c + bindsAt k i) a.1 0)) ha]
        dsimp only
        rw [mapF_three h l _ _ _ (by omega)]
    rw [mapF_nodeX g1, mapF_nodeX g3, mapF_nodeX g2, mapF_nodeX g4, mapF_nodeX g5, mapF_three h r c k (i + 1) hc]
    show BT.node 0 0 ((mapX g2 (mapX g1 (a.1, a.2, l) (c + bindsAt k i)) (c + bindsAt k i)).1, (mapX g2 (mapX g1 (a.1, a.2, l) (c + bindsAt k i)) (c + bindsAt k i)).2.1) (mapX g2 (mapX g1 (a.1, a.2, l) (c + bindsAt k i)) (c + bindsAt k i)).2.2 _ = _
    rw [key]
theorem mapX_three {g1 g2 g3 g4 g5 : Fn2} (h : ∀ n c, 0 ≤ c → mapX g2 (g1 n c) c = mapX g5 (mapX g4 (g3 n c) c) c) (x : Int × Int × F) (c : Int) (hc : 0 ≤ c) :
    mapX g2 (mapX g1 x c) c = mapX g5 (mapX g4 (mapX g3 x c) c) c := by
  by_cases ha : x.1 = 1
  · obtain ⟨k, n, l⟩ := x
    dsimp only at ha
    subst ha
    rw [mapX_one, mapX_one]
    exact h n c hc
  · rw [mapX_else g1 ha, mapX_else g3 ha, mapX_else g2 (x := (x.1, x.2.1, mapF g1 x.2.2 c x.1 0)) ha, mapX_else g4 (x := (x.1, x.2.1, mapF g3 x.2.2 c x.1 0)) ha,
      mapX_else g5 (x := (x.1, x.2.1, mapF g4 (mapF g3 x.2.2 c x.1 0) c x.1 0)) ha]
    dsimp only
    rw [mapF_three h _ _ _ _ hc]

/-- Two that are put, one behind the other, come to what they do the other way. -/
theorem put_put (t u v u' v1 : Int × Int × F) (hu' : u' = mapX (putG v.1 v.2.1 v.2.2) u 0) (hv1 : v1 = mapX (liftG 1 0) v 0) :
    mapX (putG v.1 v.2.1 v.2.2) (mapX (putG u.1 u.2.1 u.2.2) t 0) 0 = mapX (putG u'.1 u'.2.1 u'.2.2) (mapX (putG v1.1 v1.2.1 v1.2.2) (mapX swapG t 0) 0) 0 := by
  refine mapX_three (fun n c hc => ?_) t 0 (by omega)
  by_cases h0 : n = c
  · subst h0
    have e1 : putG u.1 u.2.1 u.2.2 n n = mapX (liftG n 0) u 0 := by unfold putG; rw [if_pos rfl]; rfl
    have e2 : mapX (putG v1.1 v1.2.1 v1.2.2) (swapG n n) n = (1, n, .nil) := by
      unfold swapG
      rw [if_pos rfl, mapX_one]
      unfold putG
      rw [if_neg (by omega), if_pos (by omega), show n + 1 - 1 = n by omega]
    have e3 := lift_put v n hc u 0 (by omega)
    rw [Int.zero_add] at e3
    rw [e1, e2, mapX_one, e3, ← hu']
    unfold putG
    rw [if_pos rfl]
    rfl
  · by_cases h1 : n = c + 1
    · subst h1
      have e1 : putG u.1 u.2.1 u.2.2 (c + 1) c = (1, c, .nil) := by unfold putG; rw [if_neg (by omega), if_pos (by omega), show c + 1 - 1 = c by omega]
      have e2 : mapX (putG v1.1 v1.2.1 v1.2.2) (swapG (c + 1) c) c = mapX (liftG (c + 1) 0) v 0 := by
        unfold swapG
        rw [if_neg (by omega), if_pos rfl, mapX_one]
        unfold putG
        rw [if_pos rfl]
        have := lift_lift_at' c v
        rw [← hv1] at this
        exact this
      have e3 := put_lift_at u'.1 u'.2.1 u'.2.2 c hc v 0 (by omega)
      rw [Int.zero_add] at e3
      rw [e1, e2, mapX_one, e3]
      unfold putG
      rw [if_pos rfl]
      rfl
    · by_cases h2 : c < n
      · have e1 : putG u.1 u.2.1 u.2.2 n c = (1, n - 1, .nil) := by unfold putG; rw [if_neg h0, if_pos h2]
        have e2 : mapX (putG v1.1 v1.2.1 v1.2.2) (swapG n c) c = (1, n - 1, .nil) := by
          unfold swapG
          rw [if_neg h0, if_neg h1, mapX_one]
          unfold putG
          rw [if_neg h0, if_pos h2]
        rw [e1, e2, mapX_one, mapX_one]
        unfold putG
        rw [if_neg (by omega), if_pos (by omega), if_neg (by omega)]
      · have e1 : putG u.1 u.2.1 u.2.2 n c = (1, n, .nil) := by unfold putG; rw [if_neg h0, if_neg h2]
        have e2 : mapX (putG v1.1 v1.2.1 v1.2.2) (swapG n c) c = (1, n, .nil) := by
          unfold swapG
          rw [if_neg h0, if_neg h1, mapX_one]
          unfold putG
          rw [if_neg h0, if_neg h2]
        rw [e1, e2, mapX_one, mapX_one]
        unfold putG
        rw [if_neg h0, if_neg h2, if_neg h0]

/-- How great such a term can become. -/
theorem size_mapF {g : Fn2} {S : Nat} (h : ∀ n c, size (g n c).2.2 ≤ S) : ∀ (f : F) (c k : Int) (i : Nat), size (mapF g f c k i) ≤ size f * (S + 1)
  | .nil, _, _, _ => by rw [mapF, size]; omega
  | .node x y a l r, c, k, i => by
    have ir := size_mapF h r c k (i + 1)
    rw [mapF_nodeX, size, size, Nat.add_mul, Nat.add_mul]
    by_cases ha : a.1 = 1
    · rw [ha, mapX_one]
      have := h a.2 (c + bindsAt k i)
      omega
    · rw [mapX_else g (x := (a.1, a.2, l)) ha]
      have := size_mapF h l (c + bindsAt k i) a.1 0
      dsimp only
      omega
theorem size_mapX {g : Fn2} {S : Nat} (h : ∀ n c, size (g n c).2.2 ≤ S) (x : Int × Int × F) (c : Int) : size (mapX g x c).2.2 ≤ size x.2.2 * (S + 1) + S := by
  by_cases ha : x.1 = 1
  · obtain ⟨k, n, l⟩ := x
    dsimp only at ha
    subst ha
    rw [mapX_one]
    have := h n c
    omega
  · rw [mapX_else g ha]
    have := size_mapF h x.2.2 c x.1 0
    dsimp only
    omega
theorem size_liftG (b last n c : Int) : size (liftG b last n c).2.2 ≤ 0 := by unfold liftG; exact Nat.le_refl _
theorem size_swapG (n c : Int) : size (swapG n c).2.2 ≤ 0 := by unfold swapG; exact Nat.le_refl _
theorem size_putG (u : Int × Int × F) (n c : Int) : size (putG u.1 u.2.1 u.2.2 n c).2.2 ≤ size u.2.2 := by
  unfold putG
  split
  · have := size_mapX (size_liftG c 0) u 0
    unfold mapX at this
    omega
  · split <;> exact Nat.zero_le _

/-- The numbers of such a term. -/
theorem nums_mapF {g : Fn2} {M M' C : Int} (h : ∀ n c, 0 ≤ n → n ≤ M → 0 ≤ c → c ≤ C → ((g n c).1 = 1 → 0 ≤ (g n c).2.1 ∧ (g n c).2.1 ≤ M') ∧ numsTo M' (g n c).2.2) :
    ∀ (f : F) (c k : Int) (i : Nat), 0 ≤ c → c + 2 * size f ≤ C → numsTo M f → numsTo M' (mapF g f c k i)
  | .nil, _, _, _, _, _, _ => trivial
  | .node x y a l r, c, k, i, hc, hC, hn => by
    have hb := bindsAt_bd k i
    rw [size] at hC
    rw [mapF_nodeX]
    have ir := nums_mapF h r c k (i + 1) hc (by omega) hn.2.2
    by_cases ha : a.1 = 1
    · rw [ha, mapX_one]
      have := hn.1 ha
      have h2 := h a.2 (c + bindsAt k i) this.1 this.2 (by omega) (by omega)
      exact ⟨h2.1, h2.2, ir⟩
    · rw [mapX_else g (x := (a.1, a.2, l)) ha]
      exact ⟨fun e => absurd e ha, nums_mapF h l _ _ _ (by omega) (by omega) hn.2.1, ir⟩
theorem numsTo_mono {M M' : Int} (h : M ≤ M') : ∀ (f : F), numsTo M f → numsTo M' f
  | .nil, _ => trivial
  | .node _ _ a l r, hn => ⟨fun e => ⟨(hn.1 e).1, by have := (hn.1 e).2; omega⟩, numsTo_mono h l hn.2.1, numsTo_mono h r hn.2.2⟩
/-- What is asked of a term that is put, or into which is put. -/
structure Mild (M : Int) (S : Nat) (x : Int × Int × F) : Prop where
  num : x.1 = 1 → 0 ≤ x.2.1 ∧ x.2.1 ≤ M
  nums : numsTo M x.2.2
  small : size x.2.2 ≤ S
theorem Right.mild {M k n : Int} {l : F} (h : Right M k n l) : Mild M 59 (k, n, l) := ⟨h.num, h.nums, h.small⟩
theorem Mild.map {g : Fn2} {M M' C : Int} {S S1 S' : Nat} {x : Int × Int × F} (hx : Mild M S x) (h : ∀ n c, 0 ≤ n → n ≤ M → 0 ≤ c → c ≤ C → ((g n c).1 = 1 → 0 ≤ (g n c).2.1 ∧ (g n c).2.1 ≤ M') ∧ numsTo M' (g n c).2.2) (hS : ∀ n c, size (g n c).2.2 ≤ S1) (hC : 2 * (S : Int) ≤ C) (hS' : S * (S1 + 1) + S1 ≤ S') : Mild M' S' (mapX g x 0) := by
  have hs := hx.small
  have h1 := size_mapX hS x 0
  have h2 : size x.2.2 * (S1 + 1) ≤ S * (S1 + 1) := Nat.mul_le_mul_right _ hs
  by_cases ha : x.1 = 1
  · obtain ⟨k, n, l⟩ := x
    dsimp only at ha
    subst ha
    rw [mapX_one] at h1 ⊢
    have := hx.num rfl
    have h3 := h n 0 this.1 this.2 (by omega) (by omega)
    exact ⟨h3.1, h3.2, by omega⟩
  · rw [mapX_else g ha] at h1 ⊢
    exact ⟨fun e => absurd e ha, nums_mapF h _ _ _ _ (by omega) (by omega) hx.nums, by omega⟩
theorem Mild.lift {M b : Int} {S S' : Nat} {x : Int × Int × F} (hx : Mild M S x) (hb : 0 ≤ b) (hS : S ≤ S') : Mild (M + b) S' (mapX (liftG b 0) x 0) :=
  hx.map (C := 2 * S) (fun n c h0 h1 _ _ => ⟨fun _ => by unfold liftG; dsimp only; split <;> omega, by unfold liftG; trivial⟩) (fun n c => size_liftG b 0 n c) (by omega) (by omega)
theorem Mild.mono {M M' : Int} {S : Nat} {x : Int × Int × F} (hx : Mild M S x) (h : M ≤ M') : Mild M' S x := ⟨fun e => ⟨(hx.num e).1, by have := (hx.num e).2; omega⟩, numsTo_mono h _ hx.nums, hx.small⟩
theorem Mild.swap {M : Int} {S : Nat} {x : Int × Int × F} (hx : Mild M S x) : Mild (M + 2 * S + 1) S (mapX swapG x 0) :=
  hx.map (C := 2 * S) (fun n c h0 h1 _ _ => ⟨fun _ => by unfold swapG; dsimp only; split <;> (try split) <;> omega, by unfold swapG; trivial⟩) (fun n c => size_swapG n c) (by omega) (by omega)
theorem Mild.put {M N : Int} {S T S' : Nat} {x u : Int × Int × F} (hx : Mild M S x) (hu : Mild N T u) (hN : 0 ≤ N) (hS : S * (T + 1) + T ≤ S') : Mild (M + N + 2 * S) S' (mapX (putG u.1 u.2.1 u.2.2) x 0) :=
  hx.map (C := 2 * S) (fun n c h0 h1 hc0 hc1 => by
    unfold putG
    split
    · have := (hu.lift (b := c) hc0 (Nat.le_refl _)).mono (M' := M + N + 2 * S) (by omega)
      exact ⟨this.num, this.nums⟩
    · split
      · exact ⟨fun _ => by dsimp only; omega, trivial⟩
      · exact ⟨fun _ => by dsimp only; omega, trivial⟩) (fun n c => Nat.le_trans (size_putG u n c) hu.small) (by omega) hS

/-- Kinds are kinds, and each has as many arguments as it should. -/
def okF : F → Prop
  | .nil => True
  | .node _ _ a l r => (1 ≤ a.1 ∧ a.1 ≤ 18) ∧ len l = (shpL a.1).length ∧ okF l ∧ okF r
theorem look_ok (decls : Int) : ∀ (f : F) (bound deep k : Int) (i : Nat), lookF decls f bound deep k i = 0 → okF f
  | .nil, _, _, _, _, _ => trivial
  | .node x y a l r, bound, deep, k, i, h => by
    obtain ⟨h1, h2⟩ := lookF_zero h
    obtain ⟨g1, g2, g3, g4, g5⟩ := lookT_zero h1
    exact ⟨g2, g3, look_ok decls l _ _ _ _ g5, look_ok decls r _ _ _ _ h2⟩
theorem wrong_ok {decls bound k n : Int} {l : F} (h : wrongT decls bound k n l = 0) : (1 ≤ k ∧ k ≤ 18) ∧ len l = (shpL k).length ∧ okF l := by
  obtain ⟨h1, _⟩ := wrong_zero h
  obtain ⟨g1, g2, g3, g4, g5⟩ := lookT_zero h1
  exact ⟨g2, g3, look_ok decls l _ _ _ _ g5⟩
theorem okF_drop : ∀ (j : Nat) (f : F), okF f → okF (drop j f)
  | 0, _, h => by simpa [drop] using h
  | j + 1, .nil, h => by simp [drop, okF]
  | j + 1, .node _ _ _ _ r, h => by rw [drop]; exact okF_drop j r h.2.2.2

/-- The first j terms. -/
def takeF : Nat → F → F
  | 0, _ => .nil
  | _ + 1, .nil => .nil
  | j + 1, .node x y a l r => .node x y a l (takeF j r)
theorem takeF_snoc : ∀ (j : Nat) (f : F) {a : Int × Int} {l r : F}, drop j f = .node 0 0 a l r → takeF (j + 1) f = snoc (takeF j f) (a.1, a.2, l)
  | 0, .nil, _, _, _, e => by simp [drop] at e
  | 0, .node x y b m s, a, l, r, e => by
    rw [drop] at e
    simp only [BT.node.injEq] at e
    obtain ⟨rfl, rfl, rfl, rfl, rfl⟩ := e
    rw [takeF, takeF, takeF, snoc]
  | j + 1, .nil, _, _, _, e => by simp [drop] at e
  | j + 1, .node x y b m s, a, l, r, e => by
    rw [drop] at e
    rw [takeF, takeF, snoc, takeF_snoc j s e]
theorem takeF_len : ∀ (f : F), takeF (len f) f = f
  | .nil => rfl
  | .node _ _ _ _ r => by rw [len, takeF, takeF_len r]
theorem len_takeF : ∀ (j : Nat) (f : F), j ≤ len f → len (takeF j f) = j
  | 0, _, _ => rfl
  | j + 1, .nil, h => by simp [len] at h
  | j + 1, .node _ _ _ _ r, h => by rw [takeF, len, len_takeF j r (by rw [len] at h; omega)]
end Tmx
