/-
  The reader over words, told by its first error.
-/
/-
  The program's reader as it lies in memory.
-/
import Derived.Test.YthfjmcomhccbaaaGreatDoorVMem5Um
import Derived.Test.YthfjmcomhccbaaaGreatDoorMem2m
namespace Tmx
open Go.Deep

theorem failE_sticky {E : Int} (h : E ≠ 0) (e : Int) : failE E e = E := by unfold failE; rw [if_neg h]
theorem failE_zero (e : Int) : failE 0 e = e := rfl
theorem wT_sticky {E : Int} (h : E ≠ 0) (ts : List (List UInt8)) : wT ts E = E := by
  unfold wT
  split
  · exact failE_sticky h _
  · rfl
theorem bindT_sticky : ∀ (m : Nat) (ns ts : List (List UInt8)) (E : Int), E ≠ 0 → (bindT m ns ts E).2.2 = E
  | 0, _, _, _, _ => rfl
  | m + 1, ns, ts, E, h => by
    rw [bindT]
    have : (if nameB (hdT ts) = false then failE (wT ts E) 7 else wT ts E) = E := by
      rw [wT_sticky h]
      split
      · exact failE_sticky h _
      · rfl
    rw [this]
    exact bindT_sticky m _ _ _ h
theorem argsT_sticky {T : TermTF} (hT : ∀ ns ts E, E ≠ 0 → (T ns ts E).2.2 = E) : ∀ (sh : List UInt8) (A : F) (ns ts : List (List UInt8)) (E : Int), E ≠ 0 → (argsT T sh A ns ts E).2.2 = E
  | [], _, _, _, _, _ => rfl
  | c :: sh, A, ns, ts, E, h => by
    rw [argsT]
    have hb := bindT_sticky (c.toNat - 48) ns ts E h
    have h5 : (if 8 < (bindT (c.toNat - 48) ns ts E).1.length then failE (bindT (c.toNat - 48) ns ts E).2.2 5 else (bindT (c.toNat - 48) ns ts E).2.2) = E := by
      rw [hb]
      split
      · exact failE_sticky h _
      · rfl
    rw [h5, hT _ _ _ h]
    exact argsT_sticky hT sh _ _ _ _ h
theorem atomS_sticky (ns ds : List (List UInt8)) (wd : List UInt8) {E : Int} (h : E ≠ 0) : (atomS ns ds wd E).2 = E := by
  unfold atomS atomU atomN atomV atomD
  repeat' split
  all_goals first | rfl | exact failE_sticky h _
theorem termT_sticky (ds : List (List UInt8)) : ∀ (n : Nat) (ns ts : List (List UInt8)) (E : Int), E ≠ 0 → (termT ds n ns ts E).2.2 = E
  | 0, _, _, _, h => failE_sticky h _
  | n + 1, _, _, _, h => by rw [termT]; dsimp only; rw [if_pos h]

theorem tail_suf {ts us : List (List UInt8)} (h : us <:+ ts) : us.tail <:+ ts := (List.tail_suffix us).trans h
theorem bindT_suf : ∀ (m : Nat) (ns ts : List (List UInt8)) (E : Int), (bindT m ns ts E).2.1 <:+ ts
  | 0, _, _, _ => List.suffix_refl _
  | m + 1, ns, ts, E => by rw [bindT]; exact (bindT_suf m _ _ _).trans (List.tail_suffix ts)
theorem argsT_suf {T : TermTF} (hT : ∀ ns ts E, (T ns ts E).2.1 <:+ ts) : ∀ (sh : List UInt8) (A : F) (ns ts : List (List UInt8)) (E : Int), (argsT T sh A ns ts E).2.1 <:+ ts
  | [], _, _, _, _ => List.suffix_refl _
  | c :: sh, A, ns, ts, E => by
    rw [argsT]
    exact (argsT_suf hT sh _ _ _ _).trans ((hT _ _ _).trans (bindT_suf _ _ _ _))
theorem headTT_suf (ts : List (List UInt8)) : headTT ts <:+ ts := by
  unfold headTT
  split
  · exact List.tail_suffix ts
  · exact List.suffix_refl _
theorem termT_suf (ds : List (List UInt8)) : ∀ (n : Nat) (ns ts : List (List UInt8)) (E : Int), (termT ds n ns ts E).2.1 <:+ ts
  | 0, _, _, _ => List.suffix_refl _
  | n + 1, ns, ts, E => by
    rw [termT]
    dsimp only
    split
    · exact List.suffix_refl _
    · split
      · exact tail_suf ((argsT_suf (termT_suf ds n) _ _ _ _ _).trans ((headTT_suf _).trans (List.tail_suffix ts)))
      · exact List.tail_suffix ts

/-- Words are never empty. -/
def Full (ts : List (List UInt8)) : Prop := ∀ w ∈ ts, w ≠ []
theorem Full.suf {ts us : List (List UInt8)} (h : Full ts) (hs : us <:+ ts) : Full us := fun w hw => h w (hs.mem hw)
theorem toksN_full : ∀ (n : Nat) (l : List UInt8), Full (toksN n l)
  | 0, _ => fun w hw => by simp [toksN] at hw
  | n + 1, l => by
    rw [toksN]
    split
    · intro w hw; simp at hw
    · rename_i h
      intro w hw
      rcases List.mem_cons.1 hw with rfl | hw
      · exact h
      · exact toksN_full n _ w hw
theorem toks_full (l : List UInt8) : Full (toks l) := toksN_full _ l

abbrev GotK := Except Int ((Int × Int × F) × List (List UInt8))
/-- So many names. -/
def namesK : Nat → List (List UInt8) → List (List UInt8) → Except Int (List (List UInt8) × List (List UInt8))
  | 0, ns, ts => .ok (ns, ts)
  | _ + 1, _, [] => .error 8
  | m + 1, ns, w :: r => if nameB w = true then namesK m (ns ++ [w]) r else .error 7
/-- What follows where there is no error. -/
def andX {α β : Type} (e : Except Int α) (f : α → Except Int β) : Except Int β := match e with
  | .error x => .error x
  | .ok a => f a
theorem andX_ok {α β : Type} (a : α) (f : α → Except Int β) : andX (.ok a) f = f a := rfl
theorem andX_error {α β : Type} (x : Int) (f : α → Except Int β) : andX (.error x) f = .error x := rfl
def argsK (T : List (List UInt8) → List (List UInt8) → GotK) : List UInt8 → F → List (List UInt8) → List (List UInt8) → Except Int (F × List (List UInt8))
  | [], A, _, ts => .ok (A, ts)
  | c :: sh, A, ns, ts => andX (namesK (c.toNat - 48) ns ts) fun p => if 8 < p.1.length then .error 5 else andX (T p.1 p.2) fun x => argsK T sh (snoc A x.1) ns x.2
def closeK (k : Int) : Except Int (F × List (List UInt8)) → GotK
  | .error e => .error e
  | .ok (_, []) => .error 8
  | .ok (A, w :: r) => if w = [41] then .ok ((k, 0, A), r) else .error 2
def atomK (ns ds : List (List UInt8)) (w : List UInt8) (r : List (List UInt8)) : GotK := if (atomS ns ds w 0).2 = 0 then .ok ((atomS ns ds w 0).1, r) else .error (atomS ns ds w 0).2
/-- A term of words, or the first error. -/
def termK (ds : List (List UInt8)) : Nat → List (List UInt8) → List (List UInt8) → GotK
  | 0, _, _ => .error 9
  | _ + 1, _, [] => .error 8
  | n + 1, ns, w :: r => if w = [40] then closeK (headKT r) (argsK (termK ds n) (shpL (headKT r)) .nil ns (headTT r)) else atomK ns ds w r

def convN (X : List (List UInt8) × List (List UInt8) × Int) : Except Int (List (List UInt8) × List (List UInt8)) := if X.2.2 = 0 then .ok (X.1, X.2.1) else .error X.2.2
def convA (X : F × List (List UInt8) × Int) : Except Int (F × List (List UInt8)) := if X.2.2 = 0 then .ok (X.1, X.2.1) else .error X.2.2
def convT (X : (Int × Int × F) × List (List UInt8) × Int) : GotK := if X.2.2 = 0 then .ok (X.1, X.2.1) else .error X.2.2

theorem namesK_eq : ∀ (m : Nat) (ns ts : List (List UInt8)), Full ts → namesK m ns ts = convN (bindT m ns ts 0)
  | 0, _, _, _ => rfl
  | m + 1, ns, [], _ => by
    have h8 : (if nameB (hdT []) = false then failE (wT [] 0) 7 else wT [] 0) = 8 := by
      rw [show hdT [] = [] from rfl, show wT [] 0 = 8 from rfl, show nameB [] = false by decide]
      rfl
    rw [namesK, bindT, h8]
    unfold convN
    rw [bindT_sticky m _ _ 8 (by decide), if_neg (by decide)]
  | m + 1, ns, w :: r, hf => by
    have hw : w ≠ [] := hf w (by simp)
    have hwT : wT (w :: r) 0 = 0 := by unfold wT hdT; rw [if_neg (by simpa using hw)]
    rw [namesK, bindT, hwT]
    have hd : hdT (w :: r) = w := rfl
    rw [hd, List.tail_cons]
    by_cases hn : nameB w = true
    · rw [if_pos hn, if_neg (by simp [hn]), namesK_eq m _ _ (hf.suf (List.suffix_cons w r))]
    · rw [if_neg hn, if_pos (by simpa using hn)]
      unfold convN
      rw [failE_zero, bindT_sticky m _ _ 7 (by decide), if_neg (by decide)]
theorem argsK_eq {K : List (List UInt8) → List (List UInt8) → GotK} {T : TermTF} (h : ∀ ns ts, Full ts → K ns ts = convT (T ns ts 0)) (hst : ∀ ns ts E, E ≠ 0 → (T ns ts E).2.2 = E) (hsu : ∀ ns ts E, (T ns ts E).2.1 <:+ ts) :
    ∀ (sh : List UInt8) (A : F) (ns ts : List (List UInt8)), Full ts → argsK K sh A ns ts = convA (argsT T sh A ns ts 0) := by
  intro sh
  induction sh with
  | nil => intro A ns ts hf; rfl
  | cons c sh ih =>
    intro A ns ts hf
    rw [argsK, argsT, namesK_eq _ _ _ hf]
    have hfb : Full (bindT (c.toNat - 48) ns ts 0).2.1 := hf.suf (bindT_suf _ _ _ _)
    generalize bindT (c.toNat - 48) ns ts 0 = b at hfb ⊢
    unfold convN
    by_cases hb : b.2.2 = 0
    · rw [if_pos hb, andX_ok]
      by_cases h8 : 8 < b.1.length
      · rw [if_pos h8, if_pos h8]
        rw [hb, failE_zero, hst _ _ 5 (by decide)]
        unfold convA
        rw [argsT_sticky hst _ _ _ _ 5 (by decide), if_neg (by decide)]
      · rw [if_neg h8, if_neg h8]
        rw [hb, h _ _ hfb]
        have hft : Full (T b.1 b.2.1 0).2.1 := hfb.suf (hsu _ _ _)
        generalize T b.1 b.2.1 0 = x at hft ⊢
        unfold convT
        by_cases hx : x.2.2 = 0
        · rw [if_pos hx, andX_ok, ih _ _ _ hft, hx]
        · rw [if_neg hx, andX_error]
          unfold convA
          rw [argsT_sticky hst _ _ _ _ _ hx, if_neg hx]
    · rw [if_neg hb, andX_error]
      have h5 : (if 8 < b.1.length then failE b.2.2 5 else b.2.2) = b.2.2 := by
        split
        · exact failE_sticky hb _
        · rfl
      rw [h5, hst _ _ _ hb]
      unfold convA
      rw [argsT_sticky hst _ _ _ _ _ hb, if_neg hb]
theorem atomS_nil (ns ds : List (List UInt8)) : (atomS ns ds [] 8).2 = 8 := atomS_sticky ns ds [] (by decide)
theorem termK_eq (ds : List (List UInt8)) : ∀ (n : Nat) (ns ts : List (List UInt8)), Full ts → termK ds n ns ts = convT (termT ds n ns ts 0)
  | 0, _, _, _ => rfl
  | n + 1, ns, [], _ => by
    rw [termK, termT]
    dsimp only
    rw [if_neg (show ¬ ((0 : Int) ≠ 0) by simp), if_neg (show ¬ hdT [] = [40] by decide)]
    unfold convT
    dsimp only
    rw [show wT [] 0 = 8 from rfl, show hdT [] = [] from rfl, atomS_nil, if_neg (by decide)]
  | n + 1, ns, w :: r, hf => by
    have hw : w ≠ [] := hf w (by simp)
    have hwT : wT (w :: r) 0 = 0 := by unfold wT hdT; rw [if_neg (by simpa using hw)]
    have hfr : Full r := hf.suf (List.suffix_cons w r)
    rw [termK, termT]
    dsimp only
    rw [if_neg (show ¬ ((0 : Int) ≠ 0) by simp), hwT, List.tail_cons, show hdT (w :: r) = w from rfl]
    by_cases hb : w = [40]
    · rw [if_pos hb, if_pos hb]
      have hE : headET r 0 = 0 := by
        unfold headET
        split
        · rename_i hk
          unfold wT
          rw [if_neg (by intro e; rw [e] at hk; exact absurd hk.1 (by decide))]
        · rfl
      rw [hE]
      have ha := argsK_eq (termK_eq ds n) (termT_sticky ds n) (termT_suf ds n) (shpL (headKT r)) .nil ns (headTT r) (hfr.suf (headTT_suf r))
      have hfa : Full (argsT (termT ds n) (shpL (headKT r)) .nil ns (headTT r) 0).2.1 := hfr.suf ((argsT_suf (termT_suf ds n) _ _ _ _ _).trans (headTT_suf r))
      rw [ha]
      generalize argsT (termT ds n) (shpL (headKT r)) .nil ns (headTT r) 0 = a at hfa ⊢
      obtain ⟨A, us, E⟩ := a
      unfold convA convT
      dsimp only at hfa ⊢
      by_cases hE2 : E = 0
      · subst hE2
        rw [if_pos rfl]
        cases us with
        | nil => rfl
        | cons u us =>
          have hu : u ≠ [] := hfa u (by simp)
          have hwu : wT (u :: us) 0 = 0 := by unfold wT hdT; rw [if_neg (by simpa using hu)]
          rw [closeK]
          unfold tailET
          rw [hwu, show hdT (u :: us) = u from rfl]
          by_cases h41 : u = [41]
          · rw [if_pos h41, if_pos h41, if_pos rfl, List.tail_cons]
          · rw [if_neg h41, if_neg h41, failE_zero, if_neg (by decide)]
      · rw [if_neg hE2, closeK]
        have ht : tailET us E = E := by
          unfold tailET
          rw [wT_sticky hE2]
          split
          · rfl
          · exact failE_sticky hE2 _
        rw [ht, if_neg hE2]
    · rw [if_neg hb, if_neg hb]
      unfold atomK convT
      dsimp only
end Tmx

namespace Go.Proofs.YthfjmcomhccbaaaGreatDoor
open Go.RowKit Tmx
set_option maxRecDepth 60000

/-- The slice that begins at p holds the texts ws in w, in a block ahead of lo. -/
def Tx (lo : Nat) (w : World) (p : Option Addr) (ws : List (List UInt8)) : Prop :=
  ∃ b o, (0 < ws.length → p = some ⟨b, o, none⟩ ∧ b < lo) ∧ ∀ i, i < ws.length → w.cell? ⟨b, o + i, none⟩ = some (.string ⟨(ws.getD i []).toArray⟩)
theorem Tx.nil (lo : Nat) (w : World) (p : Option Addr) : Tx lo w p [] := ⟨0, 0, fun h => by simp at h, fun i h => by simp at h⟩
theorem Tx.along {lo : Nat} {w w' : World} {p : Option Addr} {ws : List (List UInt8)} (h : Tx lo w p ws) (hb : ∀ b, b < lo → b < w.heap.size → w'.heap[b]? = w.heap[b]?) : Tx lo w' p ws := by
  obtain ⟨b, o, h1, h2⟩ := h
  refine ⟨b, o, h1, fun i hi => ?_⟩
  rw [World.cell?_of_block (w := w) (hb b (h1 (by omega)).2 (World.block_lt_of_cell? w ⟨b, o + i, none⟩ (h2 i hi)))]
  exact h2 i hi
theorem Tx.at {lo : Nat} {w : World} {p : Option Addr} {ws : List (List UInt8)} (h : Tx lo w p ws) {i : Nat} (hi : i < ws.length) : ∃ b o, p = some ⟨b, o, none⟩ ∧ b < lo ∧ w.cell? ⟨b, o + i, none⟩ = some (.string ⟨(ws.getD i []).toArray⟩) := by
  obtain ⟨b, o, h1, h2⟩ := h
  exact ⟨b, o, (h1 (by omega)).1, (h1 (by omega)).2, h2 i hi⟩
theorem Tx.mono {lo lo' : Nat} {w : World} {p : Option Addr} {ws : List (List UInt8)} (h : Tx lo w p ws) (hl : lo ≤ lo') : Tx lo' w p ws := by
  obtain ⟨b, o, h1, h2⟩ := h
  exact ⟨b, o, fun h => ⟨(h1 h).1, by have := (h1 h).2; omega⟩, h2⟩
theorem Strs.of_tx {lo r : Nat} {w : World} {p : Option Addr} {ws : List (List UInt8)} (h : Tx lo w p ws) (hr : lo ≤ r) : Strs r w p ws := by
  obtain ⟨b, o, h1, h2⟩ := h
  exact ⟨b, o, fun h => ⟨(h1 h).1, by have := (h1 h).2; omega⟩, h2⟩

/-- The block r is the program's reader. -/
def RdP (w : World) (r : Nat) (W B D : Value) : Prop := w.heap[r]? = some (.cells #[W, B, D] 136 (0, 0))
theorem RdP.lt {w : World} {r : Nat} {W B D : Value} (h : RdP w r W B D) : r < w.heap.size := by
  obtain ⟨hlt, _⟩ := Array.getElem?_eq_some_iff.1 h
  exact hlt
theorem RdP.facts {w : World} {r : Nat} {W B D : Value} (h : RdP w r W B D) :
    w.cell? ⟨r, 0, none⟩ = some W ∧ w.cell? ⟨r, 1, none⟩ = some B ∧ w.cell? ⟨r, 2, none⟩ = some D ∧ w.frozen? ⟨r, 0, none⟩ = false ∧ w.frozen? ⟨r, 1, none⟩ = false ∧ w.frozen? ⟨r, 2, none⟩ = false := by
  unfold RdP at h
  simp [World.cell?, World.frozen?, h]
theorem RdP.of_block {w w' : World} {r : Nat} {W B D : Value} (h : RdP w r W B D) (e : w'.heap[r]? = w.heap[r]?) : RdP w' r W B D := by
  unfold RdP
  rw [e]
  exact h
theorem RdP.setW {w : World} {r : Nat} {W B D : Value} (h : RdP w r W B D) (W' : Value) : RdP (w.setCell ⟨r, 0, none⟩ W') r W' B D := by
  unfold RdP at *
  simp [World.setCell, Array.getElem?_modify, h]
theorem RdP.setB {w : World} {r : Nat} {W B D : Value} (h : RdP w r W B D) (B' : Value) : RdP (w.setCell ⟨r, 1, none⟩ B') r W B' D := by
  unfold RdP at *
  simp [World.setCell, Array.getElem?_modify, h]

/-- The reader r: the words ws are left, the names ns are bound (in the row v), ds declared; words and declarations lie ahead of lo. -/
structure RS (lo r : Nat) (w : World) (ws ns ds : List (List UInt8)) (v : Value) : Prop where
  blk : ∃ pw cw pd cd, RdP w r (.slice pw ws.length cw) v (.slice pd ds.length cd) ∧ Tx lo w pw ws ∧ ws.length ≤ cw ∧ Tx lo w pd ds
  names : NamesIn lo w v ns
  own : v.ownBlock ≠ some r
  lor : lo ≤ r
  vs : Vs lo w
theorem RS.lt {lo r : Nat} {w : World} {ws ns ds : List (List UInt8)} {v : Value} (h : RS lo r w ws ns ds v) : r < w.heap.size := by
  obtain ⟨_, _, _, _, h1, _⟩ := h.blk
  exact h1.lt
theorem RS.ownlt {lo r : Nat} {w : World} {ws ns ds : List (List UInt8)} {v : Value} (h : RS lo r w ws ns ds v) (b : Nat) (hb : v.ownBlock = some b) : lo ≤ b ∧ b < w.heap.size := h.names.lt b hb

/-- But for the block r, the row of v, and new blocks, w' is as w was. -/
structure KB (r : Nat) (v : Value) (w w' : World) : Prop where
  os : w'.os = w.os
  tape : w'.tape = w.tape
  output : w'.output = w.output
  size : w.heap.size ≤ w'.heap.size
  block : ∀ k, k < w.heap.size → k ≠ r → v.ownBlock ≠ some k → w'.heap[k]? = w.heap[k]?
/-- The row of v' is that of v, or a new one. -/
def OwnNew (w : World) (v v' : Value) : Prop := ∀ b, v'.ownBlock = some b → v.ownBlock = some b ∨ w.heap.size ≤ b
theorem OwnNew.refl (w : World) (v : Value) : OwnNew w v v := fun _ h => .inl h
theorem OwnNew.trans {w w' : World} {a b c : Value} (h : OwnNew w a b) (k : OwnNew w' b c) (hs : w.heap.size ≤ w'.heap.size) : OwnNew w a c := fun x hx => by
  rcases k x hx with h1 | h1
  · exact h x h1
  · exact .inr (by omega)
theorem KB.refl (r : Nat) (v : Value) (w : World) : KB r v w w := ⟨rfl, rfl, rfl, Nat.le_refl _, fun _ _ _ _ => rfl⟩
theorem KB.trans {r : Nat} {v v' : Value} {a b c : World} (h : KB r v a b) (k : KB r v' b c) (ho : OwnNew a v v') : KB r v a c :=
  ⟨k.os.trans h.os, k.tape.trans h.tape, k.output.trans h.output, Nat.le_trans h.size k.size, fun i hi hr hv => (k.block i (Nat.lt_of_lt_of_le hi h.size) hr (fun e => by
    rcases ho i e with h1 | h1
    · exact hv h1
    · omega)).trans (h.block i hi hr hv)⟩
theorem KB.of_kept {r : Nat} {v : Value} {w w' : World} (h : Kept r w w') : KB r v w w' := ⟨h.os, h.tape, h.output, h.size, fun k hk hr _ => h.block k hk hr⟩
theorem KB.of_below {r : Nat} {v : Value} {w w' : World} (h : Below w.heap.size w w') : KB r v w w' := .of_kept (.of_below h)
theorem KB.below {r lo : Nat} {v : Value} {w w' : World} (h : KB r v w w') (hr : lo ≤ r) (hl : lo ≤ w.heap.size) (hv : ∀ b, v.ownBlock = some b → lo ≤ b) : Below lo w w' :=
  ⟨h.os, h.tape, h.output, h.size, fun k hk => h.block k (by omega) (by omega) fun e => by have := hv k e; omega⟩

/-- In a world in which the reader, its names, and what lies ahead of lo, are as they were. -/
theorem RS.along {lo r : Nat} {w w' : World} {ws ns ds : List (List UInt8)} {v : Value} (h : RS lo r w ws ns ds v) (hr : w'.heap[r]? = w.heap[r]?) (ho : ∀ b, v.ownBlock = some b → w'.heap[b]? = w.heap[b]?) (hl : ∀ b, b < lo → b < w.heap.size → w'.heap[b]? = w.heap[b]?) : RS lo r w' ws ns ds v := by
  obtain ⟨pw, cw, pd, cd, h1, h2, h3, h4⟩ := h.blk
  refine ⟨⟨pw, cw, pd, cd, h1.of_block hr, h2.along hl, h3, h4.along hl⟩, ?_, h.own, h.lor, h.vs.along fun g hg hs => hl g (by have := h.vs.1; omega) hs⟩
  obtain ⟨g1, g2⟩ := h.names
  refine ⟨g1, ?_⟩
  rcases g2 with g2 | ⟨g, cap, cur, e, hg, hh, hrr⟩
  · exact .inl g2
  · exact .inr ⟨g, cap, cur, e, hg, by rw [ho g (by rw [e]; rfl)]; exact hh, hrr⟩
theorem RS.below {lo r : Nat} {w w' : World} {ws ns ds : List (List UInt8)} {v : Value} (h : RS lo r w ws ns ds v) (hb : Below w.heap.size w w') : RS lo r w' ws ns ds v :=
  h.along (hb.block _ h.lt) (fun b e => hb.block _ (h.ownlt b e).2) (fun _ _ hs => hb.block _ hs)

/-- A row that is cut short. -/
theorem NamesIn.take {lo : Nat} {w : World} {p : Option Addr} {n cap : Nat} {ns : List (List UInt8)} (h : NamesIn lo w (.slice p n cap) ns) {m : Nat} (hm : m ≤ ns.length) : NamesIn lo w (.slice p m cap) (ns.take m) := by
  obtain ⟨g1, g2⟩ := h
  have hl : (ns.take m).length = m := by rw [List.length_take]; omega
  refine ⟨by simp, ?_⟩
  rw [hl]
  rcases g2 with ⟨e, h0⟩ | ⟨g, cap', cur, e, hg, hh, hn, hmx, hs, ht⟩
  · obtain ⟨rfl, rfl, rfl⟩ := Value.slice.inj e
    exact .inl ⟨by rw [show m = 0 by omega], by omega⟩
  · obtain ⟨rfl, rfl, rfl⟩ := Value.slice.inj e
    refine .inr ⟨g, cap, cur, rfl, hg, hh, by omega, hmx, hs, ?_⟩
    rw [List.map_take, ← ht, List.take_take]
    congr 1
    omega
end Go.Proofs.YthfjmcomhccbaaaGreatDoor
