/-
  How lists of truth values lie in memory when they came in.
-/
import Derived.Test.YtjoplnkagfkffaaOps
import Derived.Test.YtjoplnkagfkffaaLawRings
import Derived.Deep.Grids
namespace Go.Proofs.Ytjoplnkagfkffaa
open Go.ChangeShapes Go.WideShapes Go.ChangeAt Go.RowKit Go.Deep
theorem cellsOf4 : Try.prog.cellsOf 4 = 1 := by kernel_rfl
/-- Truth values that came in. -/
theorem bools_of {H : Type} {enc : TypeId × Value → H} {W : World} {a0 : Option Addr} {len cap fuel : Nat} {x : DataW H × List MemPlace}
    (hf : DataW.trod enc Try.prog W 0 (fun _ => true) true fuel 39 [.slice a0 len cap] = some x) :
    (∃ L, RdX elB W (.slice a0 len cap) L) ∧ ∀ p ∈ x.2, p.block < W.heap.size := by
  rcases open_bools Try.underlying39 Try.underlying4 cellsOf4 hf with ⟨hcs, hx⟩ | ⟨a, len', cap', B, hcs, _, hl, hm, hx, hcell⟩
  · simp at hcs
    obtain ⟨rfl, rfl, rfl⟩ := hcs
    subst hx
    exact ⟨⟨[], RdX.nil W⟩, fun p hp => by cases hp⟩
  · simp at hcs
    obtain ⟨rfl, rfl, rfl⟩ := hcs
    subst hx
    refine ⟨⟨(List.range len).map B, rdX_of1 rfl (by simp) hl hm Value.bool (fun _ => rfl) fun i s hs => ?_⟩, fun p hp => ?_⟩
    · have hi := (List.getElem?_eq_some_iff.1 hs).1
      rw [List.length_map, List.length_range] at hi
      rw [List.getElem?_map, List.getElem?_range hi] at hs
      obtain rfl : B i = s := by simpa using hs
      exact hcell i (by omega)
    · obtain ⟨i, hi, rfl⟩ := MemPlace.mem_row.1 hp
      exact World.block_lt_of_cell? W (a.add i) (hcell i hi) |> fun h => (show (a.add i).block = a.block by unfold Addr.add; split <;> rfl) ▸ h
end Go.Proofs.Ytjoplnkagfkffaa
