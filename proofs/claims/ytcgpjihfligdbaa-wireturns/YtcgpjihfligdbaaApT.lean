/-
  Appending a term to a list of terms.
-/
import Derived.Test.YtcgpjihfligdbaaApB
import Derived.Test.YtcgpjihfligdbaaMem5B
namespace Go.Proofs.Ytcgpjihfligdbaa
open Go.RowKit Tmx

theorem u22 : Try.prog.underlying 22 = some (.slice 24) := by kernel_rfl
theorem i24 : (Try.prog.info? 24).map (fun i => (i.zero, i.size, i.bytes)) = some (some (.agg #[.int .i64 0, .int .i64 0, .slice none 0 0]), 3, 40) := by kernel_rfl
/-- Blocks ahead of a row of one's own are as they were behind an append to it. -/
theorem grown_block {w w' : World} {lo n sz : Nat} {e : TypeId} {v : Value} {xs : List Value} (hN : w.ownsRow lo e sz v n xs) (hg : w.grownBy w' v.ownBlock) {b : Nat} (hb : b < lo) (hb2 : b < w.heap.size) : w'.heap[b]? = w.heap[b]? :=
  hg.block b hb2 fun h => by have := (hN.lt b h.symm).1; omega

/-- A term is appended. -/
theorem append_term (w : World) (lo : Nat) (v : Value) (A : F) (hA : ArgsIn lo w v A) (B c : Nat) (k n : Int) (p : Option Addr) (cp : Nat) (L : F) (hB : w.heap[B]? = some (.cells #[.int .i64 k, .int .i64 n, .slice p (len L) cp] 24 (0, 0)))
    (hL : SlQ (fun b => lo ≤ b ∧ v.ownBlock ≠ some b) w p L) (hlen : len A ≤ 1000000) (hlo : lo ≤ w.heap.size) (ty : TypeId) :
    ∃ g cap w', (Builtin.append_ #[22, 22] ty #[v, .slice (some ⟨B, 0, none⟩) 1 c]).run Try.prog w = .ok (.slice (some ⟨g, 0, none⟩) (len A + 1) cap) w' ∧
      ArgsIn lo w' (.slice (some ⟨g, 0, none⟩) (len A + 1) cap) (snoc A (k, n, L)) ∧ w.grownBy w' v.ownBlock ∧ (v.ownBlock = some g ∨ g = w.heap.size) ∧ g < w'.heap.size := by
  obtain ⟨i, hi, he⟩ := Option.map_eq_some_iff.1 i24
  simp only [Prod.mk.injEq] at he
  obtain ⟨hz, hs, hb⟩ := he
  obtain ⟨xs, h1, h2⟩ := hA
  obtain ⟨g, cap, w', hr, ho, hg, hat, hlt⟩ := run_append_lies (P := Try.prog) w 22 ty lo 24 i _ 3 40 u22 hi hz hs hb rfl (by decide) v (len A) xs h1 ⟨B, 0, none⟩ 1 c [.int .i64 k, .int .i64 n, .slice p (len L) cp] rfl
    (World.news_of_block hB) (by simp [Value.oneCell']) (by decide) (by simp only [maxLen]; omega) (by omega) hlo w.heap.size rfl
  refine ⟨g, cap, w', hr, ?_, hg, hat, hlt⟩
  have hc : ∀ b o u, (lo ≤ b ∧ v.ownBlock ≠ some b) → w.cell? ⟨b, o, none⟩ = some u → (lo ≤ b ∧ (Value.slice (some ⟨g, 0, none⟩) (len A + 1) cap).ownBlock ≠ some b) ∧ w'.cell? ⟨b, o, none⟩ = some u := by
    intro b o u hq hu
    have hbl : b < w.heap.size := World.block_lt_of_cell? w ⟨b, o, none⟩ hu
    refine ⟨⟨hq.1, ?_⟩, hg.cell hu (fun e => hq.2 e.symm)⟩
    intro e
    have : g = b := by simpa [Value.ownBlock] using e
    subst this
    rcases hat with h | h
    · exact hq.2 h
    · omega
  refine ⟨xs ++ [.int .i64 k, .int .i64 n, .slice p (len L) cp], by rw [len_snoc]; exact ho, ?_⟩
  exact Cells.snoc (hL.along hc) A xs (h2.along hc)

/-- A term that was read is put behind the others: lo: where the row of one's own begins. -/
theorem args_step {wr w1 : World} {lo : Nat} {pv q : Option Addr} {cv c : Nat} {A : F} {x : Int × Int × F} (hA : ArgsIn lo wr (.slice pv (len A) cv) A) (hlo : lo ≤ wr.heap.size) (hb : Below wr.heap.size wr w1) (hsl : SlF wr.heap.size w1 q x.2.2) (hlen : len A ≤ 1000) :
    ∃ g cap w3, (Builtin.append_ #[22, 22] 22 #[.slice pv (len A) cv, .slice (some ⟨w1.heap.size + 1, 0, none⟩) 1 1]).run Try.prog ((w1.alloc (.cells #[.int .i64 x.1, .int .i64 x.2.1, .slice q (len x.2.2) c] 24)).alloc (.cells #[.int .i64 x.1, .int .i64 x.2.1, .slice q (len x.2.2) c] 24)) = .ok (.slice (some ⟨g, 0, none⟩) (len A + 1) cap) w3 ∧
      ArgsIn lo w3 (.slice (some ⟨g, 0, none⟩) (len A + 1) cap) (snoc A x) ∧ Below lo wr w3 ∧ lo ≤ w3.heap.size := by
  have hz := hb.size
  obtain ⟨W, hW⟩ : ∃ W, w1.alloc (.cells #[.int .i64 x.1, .int .i64 x.2.1, .slice q (len x.2.2) c] 24) = W := ⟨_, rfl⟩
  have hWz : W.heap.size = w1.heap.size + 1 := by rw [← hW]; simp
  have hW1 : Below w1.heap.size w1 W := by rw [← hW]; exact (Below.refl _ _).alloc (Nat.le_refl _) _
  rw [hW, ← hWz]
  have hA1 : ArgsIn lo w1 (.slice pv (len A) cv) A := hA.along fun b _ hb2 => hb.block b hb2
  have hA2 : ArgsIn lo W (.slice pv (len A) cv) A := hA1.along fun b _ hb2 => hW1.block b hb2
  have hA3 : ArgsIn lo (W.alloc (.cells #[.int .i64 x.1, .int .i64 x.2.1, .slice q (len x.2.2) c] 24)) (.slice pv (len A) cv) A := hA2.along fun b _ hb2 => Below.heap_alloc _ _ _ hb2
  have hown : ∀ k, (Value.slice pv (len A) cv).ownBlock = some k → lo ≤ k ∧ k < wr.heap.size := by
    obtain ⟨xs, ho, _⟩ := hA
    exact ho.lt
  have hL : SlQ (fun b => lo ≤ b ∧ (Value.slice pv (len A) cv).ownBlock ≠ some b) (W.alloc (.cells #[.int .i64 x.1, .int .i64 x.2.1, .slice q (len x.2.2) c] 24)) q x.2.2 := by
    refine ((hsl.below hW1).below ((Below.refl _ _).alloc (Nat.le_refl _) _)).toQ.along fun b o v hb hv => ⟨⟨by omega, fun he => ?_⟩, hv⟩
    have h3 := (hown b he).2
    omega
  obtain ⟨g6, cap6, w3, hr, hA6, hg, hat, hlt⟩ := append_term _ lo (.slice pv (len A) cv) A hA3 W.heap.size 1 x.1 x.2.1 q c x.2.2 (heap_alloc_new _ _) hL (by omega) (by simp; omega) 22
  obtain ⟨xs, ho, _⟩ := hA3
  have hz3 := hg.size
  simp at hz3
  refine ⟨g6, cap6, w3, hr, hA6, ?_, by omega⟩
  exact ((hb.mono hlo).trans (hW1.mono (by omega))).trans (((Below.refl _ _).alloc (by omega) _).trans (grown_below ho hg (by simp; omega)))
end Go.Proofs.Ytcgpjihfligdbaa
