/-
  How lists of anchors lie in memory when they came in.
-/
import Derived.Test.YtjoplnkagfkffaaOps
import Derived.Deep.SlicePairs
namespace Go.Proofs.Ytjoplnkagfkffaa
open Go.ChangeShapes Go.WideShapes Go.ChangeAt Go.RowKit Go.Deep
theorem cellsOf43 : Try.prog.cellsOf 43 = 2 := by kernel_rfl
/-- Anchors that came in. -/
theorem anchors_of {H : Type} {enc : TypeId × Value → H} {W : World} {a0 : Option Addr} {len cap fuel : Nat} {x : DataW H × List MemPlace}
    (hf : DataW.trod enc Try.prog W 0 (fun _ => true) true fuel 26 [.slice a0 len cap] = some x) :
    (∃ L, RdX elA W (.slice a0 len cap) L) ∧ ∀ p ∈ x.2, p.block < W.heap.size := by
  rcases open_slice_pairs Try.underlying26 Try.underlying43 cellsOf43 rfl rfl cellsOf9 cellsOf9 hf with ⟨hcs, hx⟩ | ⟨a, len', cap', m, n, V0, V1, D0, D1, P0, P1, hcs, _, hl, hm, hmm, hx, hi⟩
  · simp at hcs
    obtain ⟨rfl, rfl, rfl⟩ := hcs
    subst hx
    exact ⟨⟨[], RdX.nil W⟩, fun p hp => by cases hp⟩
  · simp at hcs
    obtain ⟨rfl, rfl, rfl⟩ := hcs
    simp only [if_true] at hmm
    subst hmm
    have H1 : ∀ i, ∃ y : An, i < m → W.cell? (a.add (i * 2)) = some (.string y.name) ∧ W.cell? (a.add (i * 2 + 1)) = some (.string y.text) ∧ P0 i = [] ∧ P1 i = [] := by
      intro i
      by_cases him : i < m
      · obtain ⟨c0, c1, g0, g1⟩ := hi i him
        obtain ⟨k0, r0, z0, w0⟩ := DataW.trod_string Try.underlying9 g0
        obtain ⟨k1, r1, z1, w1⟩ := DataW.trod_string Try.underlying9 g1
        refine ⟨⟨k0, k1⟩, fun _ => ⟨?_, ?_, ?_, ?_⟩⟩
        · rw [c0]; simpa using r0
        · rw [c1]; simpa using r1
        · simpa using (Prod.mk.inj z0).2
        · simpa using (Prod.mk.inj z1).2
      · exact ⟨⟨ByteArray.empty, ByteArray.empty⟩, fun h => absurd h him⟩
    obtain ⟨Y, hY⟩ := Classical.axiomOfChoice H1
    have hblk : 0 < m → a.block < W.heap.size ∧ a.spot = none := by
      intro h0
      have c0 := (hY 0 h0).1
      have e : a.add (0 * 2) = a := by simp [Addr.add]
      rw [e] at c0
      exact ⟨W.block_lt_of_cell? _ c0, World.cell?_spot c0⟩
    refine ⟨⟨(List.range len).map Y, some a, m, by simp, by simpa using hl, hm, ?_⟩, fun p hp => ?_⟩
    · by_cases h0 : len = 0
      · exact .inl (by subst h0; rfl)
      · obtain ⟨hb, hs⟩ := hblk (by omega)
        obtain ⟨b, off, spot⟩ := a
        obtain rfl : spot = none := hs
        refine .inr ⟨b, off, rfl, fun j u hu => ?_⟩
        have hj := (List.getElem?_eq_some_iff.1 hu).1
        rw [El.fl_length, List.length_map, List.length_range, show elA.k = 2 from rfl] at hj
        have hx : ((List.range len).map Y)[j / 2]? = some (Y (j / 2)) := by rw [List.getElem?_map, List.getElem?_range (by omega)]; rfl
        have h1 := El.fl_at (E := elA) hx (j % 2) (by rw [show elA.k = 2 from rfl]; omega)
        rw [show elA.k = 2 from rfl, show j / 2 * 2 + j % 2 = j by omega] at h1
        rw [h1] at hu
        obtain ⟨c0, c1, _, _⟩ := hY (j / 2) (by omega)
        rw [add_lit] at c0 c1
        rcases (by omega : j % 2 = 0 ∨ j % 2 = 1) with h2 | h2
        · rw [h2] at hu
          obtain rfl : Value.string (Y (j / 2)).name = u := by simpa [elA] using hu
          rw [show off + j = off + j / 2 * 2 by omega]; exact c0
        · rw [h2] at hu
          obtain rfl : Value.string (Y (j / 2)).text = u := by simpa [elA] using hu
          rw [show off + j = off + (j / 2 * 2 + 1) by omega]; exact c1
    · rw [hx] at hp
      rcases List.mem_append.1 hp with hp | hp
      · obtain ⟨i, hi2, rfl⟩ := MemPlace.mem_row.1 hp
        have := (hblk (by omega)).1
        exact (show (a.add i).block = a.block by unfold Addr.add; split <;> rfl) ▸ this
      · obtain ⟨i, hi2, hpi⟩ := List.mem_flatMap.1 hp
        obtain ⟨_, _, h1, h2⟩ := hY i (List.mem_range.1 hi2)
        rw [h1, h2] at hpi
        cases hpi
end Go.Proofs.Ytjoplnkagfkffaa
