/-
  How arguments lie in memory: numbers, and a list of texts that comes in.
-/
import Derived.Test.YtnhjbhmhloeaeaaRows
import Derived.Test.YtnhjbhmhloeaeaaAwake
import Derived.ProofKit
import Derived.OpenShut
import Derived.Carry
import Derived.SliceStrings
import Derived.Below
namespace Go.Proofs.Ytnhjbhmhloeaeaa
open Go.ChangeShapes Go.WideShapes Go.ChangeAt Go.RowKit
theorem ownKnobNone : ownKnob Try.prog.godebug = none := by kernel_rfl
theorem laidOutT : laidOutB Try.prog = true := by kernel_rfl
theorem cellsOf9 : Try.prog.cellsOf 9 = 1 := by kernel_rfl
theorem i64_bd {n : Int} (h : (Lit.int .i64 n).wf = true) : -9223372036854775808 ≤ n ∧ n ≤ 9223372036854775807 := by
  simpa [Lit.wf, IntKind.min, IntKind.max, IntKind.signed, IntKind.bits] using h
/-- Texts that came in. -/
def Came (W : World) (a : Option Addr) (len : Nat) : Prop := len = 0 ∨ ∃ b off, ∃ ss : Nat → ByteArray, a = some ⟨b, off, none⟩ ∧ b < W.heap.size ∧ ∀ k, k < len → W.cell? ⟨b, off + k, none⟩ = some (.string (ss k))
theorem came_of {H : Type} {enc : TypeId × Value → H} {W : World} {a0 : Option Addr} {len cap fuel : Nat} {x : DataW H × List MemPlace}
    (hf : DataW.trod enc Try.prog W 0 (fun _ => true) true fuel 22 [.slice a0 len cap] = some x) :
    Came W a0 len ∧ ∀ p ∈ x.2, p.block < W.heap.size := by
  rcases open_strings Try.underlying22 Try.underlying9 cellsOf9 hf with ⟨hcs, hx⟩ | ⟨a, len', cap', ss, hcs, _, hl, hm, hz, hx, hcell, hsz⟩
  · simp at hcs
    obtain ⟨rfl, rfl, rfl⟩ := hcs
    subst hx
    exact ⟨.inl rfl, fun p hp => by cases hp⟩
  · simp at hcs
    obtain ⟨rfl, rfl, rfl⟩ := hcs
    subst hx
    simp only [if_true] at hz
    refine ⟨?_, fun p hp => ?_⟩
    · by_cases h0 : len = 0
      · exact .inl h0
      · obtain ⟨b, off, spot⟩ := a
        have hspot : spot = none := by simpa [Addr.add] using World.cell?_spot (hcell 0 (by omega))
        subst hspot
        refine .inr ⟨b, off, fun k => ss.getD k ByteArray.empty, rfl, W.block_lt_of_cell? _ (hcell 0 (by omega)), fun k hk => ?_⟩
        rw [show (⟨b, off + k, none⟩ : Addr) = (⟨b, off, none⟩ : Addr).add k by unfold Addr.add; split <;> simp_all]
        exact hcell k (by omega)
    · obtain ⟨i, hi, rfl⟩ := MemPlace.mem_row.1 hp
      exact World.block_lt_of_cell? W (a.add i) (hcell i hi) |> fun h => (show (a.add i).block = a.block by unfold Addr.add; split <;> rfl) ▸ h
end Go.Proofs.Ytnhjbhmhloeaeaa
