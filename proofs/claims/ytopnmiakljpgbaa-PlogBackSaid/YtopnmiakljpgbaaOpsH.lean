/-
  How a list of states lies in memory.
-/
import Derived.Test.YtopnmiakljpgbaaOps
import Derived.Test.YtopnmiakljpgbaaLawBack
namespace Go.Proofs.Ytopnmiakljpgbaa
open Go.ChangeShapes Go.WideShapes Go.ChangeAt Go.RowKit Go.Deep
def HardsIn (W : World) (v : Value) : Prop := ∃ L : List Hd, RdH W v L
theorem hards_of {H : Type} {enc : TypeId × Value → H} {W : World} {fuel : Nat} {a0 : Option Addr} {len0 cap0 : Nat} {x : DataW H × List MemPlace}
    (hf : DataW.trod enc Try.prog W 0 (fun _ => true) true fuel 59 [.slice a0 len0 cap0] = some x) :
    HardsIn W (.slice a0 len0 cap0) ∧ ∀ p ∈ x.2, p.block < W.heap.size := by
  rcases open_slice Try.underlying59 hf with ⟨hcs, hx⟩ | ⟨a, len, cap, m, n, D, Pl, hcs, _, hl, hcm, hm, hx, hi⟩
  · simp at hcs
    obtain ⟨rfl, rfl, rfl⟩ := hcs
    subst hx
    exact ⟨⟨[], none, 0, rfl, Nat.le_refl _, Nat.zero_le _, by simp, .inl rfl⟩, by simp⟩
  · simp at hcs
    obtain ⟨rfl, rfl, rfl⟩ := hcs
    simp only [if_true] at hm
    rw [cellsOf42] at hi hx
    have H1 : ∀ i, i < m → ∃ q : Hd, q.Rd W ∧ (∀ p ∈ Pl i, p.block < W.heap.size) ∧ ∀ (j : Nat) u, q.cs[j]? = some u → W.cell? ((a.add (i * 7)).add j) = some u := by
      intro i him
      obtain ⟨cs', hc, ht⟩ := hi i him
      obtain ⟨_, hcl, hat⟩ := World.cells?_some hc
      obtain ⟨q, he, hr, _, hp⟩ := hd_cells hcl ht
      subst he
      refine ⟨q, hr, hp, fun j u hu => ?_⟩
      have hj : j < 7 := by
        have := (List.getElem?_eq_some_iff.1 hu).1
        simpa using this
      have := hat j hj
      rw [hu] at this
      exact this
    have hblk : 0 < m → a.block < W.heap.size ∧ a.spot = none := by
      intro h0
      obtain ⟨o, _, _, c0⟩ := H1 0 h0
      have c0 := c0 0 _ rfl
      have e : (a.add (0 * 7)).add 0 = a := by simp [Addr.add]
      rw [e] at c0
      exact ⟨W.block_lt_of_cell? _ c0, World.cell?_spot c0⟩
    have hpl : ∀ p ∈ x.2, p.block < W.heap.size := by
      intro p hp
      rw [hx] at hp
      rcases List.mem_append.1 hp with hp | hp
      · obtain ⟨i, hi2, rfl⟩ := MemPlace.mem_row.1 hp
        exact (hblk (by omega)).1
      · obtain ⟨i, hi2, hpi⟩ := List.mem_flatMap.1 hp
        obtain ⟨q, _, he, _⟩ := H1 i (List.mem_range.1 hi2)
        exact he p hpi
    by_cases h0 : len0 = 0
    · subst h0
      exact ⟨⟨[], some a, cap0, rfl, Nat.zero_le _, by omega, by simp, .inl rfl⟩, hpl⟩
    · obtain ⟨hb, hs⟩ := hblk (by omega)
      obtain ⟨b, off, spot⟩ := a
      obtain rfl : spot = none := hs
      have H2 : ∀ k, ∃ q : Hd, q.Rd W ∧ (k < m → ∀ (j : Nat) u, q.cs[j]? = some u → W.cell? ⟨b, off + k * 7 + j, none⟩ = some u) := by
        intro k
        by_cases hk : k < m
        · obtain ⟨q, hq, _, c0⟩ := H1 k hk
          refine ⟨q, hq, fun _ j u hu => ?_⟩
          have := c0 j u hu
          simp only [add_lit] at this
          exact this
        · exact ⟨⟨0, 0, .slice none 0 0, ByteArray.empty, 0, 0, none, 0, 0, [], []⟩, ⟨RdN.nil _, RdE.nil _⟩, fun h => absurd h hk⟩
      obtain ⟨qf, hqf⟩ := Classical.axiomOfChoice H2
      refine ⟨⟨(List.range len0).map qf, some ⟨b, off, none⟩, cap0, by simp, by simp; omega, by omega, ?_, .inr ⟨b, off, rfl, fun j q hj => ?_⟩⟩, hpl⟩
      · intro q hq
        obtain ⟨k, _, rfl⟩ := List.mem_map.1 hq
        exact (hqf k).1
      · obtain ⟨h3, h4⟩ := List.getElem?_eq_some_iff.1 hj
        simp at h3 h4
        subst h4
        exact (hqf j).2 (by omega)
end Go.Proofs.Ytopnmiakljpgbaa
