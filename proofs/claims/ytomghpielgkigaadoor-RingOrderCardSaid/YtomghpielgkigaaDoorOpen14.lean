/-
  What the rows' list of the two tables gives the walks, a world that meets it; lists of numbers and of texts among the arguments, opened. No statement is proved here.
-/
import Derived.Test.YtomghpielgkigaaDoorCards
import Derived.Test.YtomghpielgkigaaDoorTie
import Derived.Test.YtomghpielgkigaaDoorAwake14
import Derived.ProofKit
import Derived.OpenShut
import Derived.Carry
import Derived.SliceStrings
import Derived.Deep.DeepHandedRow
import Derived.Lib.LaidTab
namespace Go.Proofs.YtomghpielgkigaaDoor
open Go.RowKit Go.ChangeShapes Go.WideShapes Go.ChangeAt
theorem ownKnobNone : ownKnob Tryd.prog.godebug = none := by kernel_rfl
theorem laidOutT : laidOutB Tryd.prog = true := by kernel_rfl
theorem gKeys : Tryd.prog.globalNamed "fingerpost/sha.keys" = some 1 := by kernel_rfl
theorem gInit : Tryd.prog.globalNamed "fingerpost/sha.initial" = some 0 := by kernel_rfl
theorem tKeys : (Tryd.prog.globals[1]?).map (·.type) = some 112 := by kernel_rfl
theorem tInit : (Tryd.prog.globals[0]?).map (·.type) = some 79 := by kernel_rfl
theorem und78i : Tryd.prog.underlying 78 = some (.int .u32) := by kernel_rfl
theorem cOf78 : Tryd.prog.cellsOf 78 = 1 := by kernel_rfl
theorem cOf112 : Tryd.prog.cellsOf 112 = 64 := by kernel_rfl
theorem cOf79 : Tryd.prog.cellsOf 79 = 8 := by kernel_rfl
def theList : List (String × DataW Unit) := [("fingerpost/sha.keys", Rows.laid_fingerpost_sha_keys), ("fingerpost/sha.initial", Rows.laid_fingerpost_sha_initial)]

/-- WHAT THE ROWS' LIST GIVES: both tables hold their numbers. -/
theorem of_laid {W : World} (h : laidMet Tryd.prog theList W) : Tab W := by
  obtain ⟨ps, ⟨g0, t0, cs0, f0, p0, q0, hg0, ht0, hv0, hd0, ⟨g1, t1, cs1, f1, p1, q1, hg1, ht1, hv1, hd1, _, _⟩, _⟩, _, _⟩ := h
  obtain rfl := Option.some.inj (gKeys.symm.trans hg0)
  obtain rfl := Option.some.inj (gInit.symm.trans hg1)
  obtain rfl := Option.some.inj (tKeys.symm.trans ht0)
  obtain rfl := Option.some.inj (tInit.symm.trans ht1)
  have e0 := Lib.cells_of_tab (zs := kk) und25a und78i cOf78 cOf112 hd0
  have e1 := Lib.cells_of_tab (zs := ii) und28 und78i cOf78 cOf79 hd1
  constructor
  · have hc : cs1 = ua ii := by
      have : cs1.toList.toArray = (ii.map (Value.int .u32)).toArray := by rw [e1]
      simpa [ua, ui] using this
    simp only [World.var?, gInit, Option.bind_some] at hv1
    split at hv1
    · rename_i cs t fr hh
      cases hv1
      exact ⟨t, fr, by rw [hh, hc]⟩
    · cases hv1
  · intro j hj
    rw [World.var?_cell gKeys hv0 j]
    have : cs0[j]? = cs0.toList[j]? := by simp
    rw [this, e0]
    have hjk : j < kk.length := hj
    simp [hjk]

def putRow (cs : Array Value) : Obj → Obj
  | .cells _ t frozen => .cells cs t frozen
  | o => o
/-- A WORLD FOR THE WITNESSES: the settled one, the two tables holding their numbers. -/
noncomputable def laidWorld (os : Os) : World :=
  { World.holding Tryd.prog os ⟨#[], #[], []⟩ with heap := ((World.holding Tryd.prog os ⟨#[], #[], []⟩).heap.modify 1 (putRow (ua kk))).modify 0 (putRow (ua ii)) }
theorem laid_met (os : Os) (args : Array Value) : laidMet Tryd.prog theList ((laidWorld os).forCall (fun _ _ => 0) ⟨#[], args, []⟩).memory :=
  laidMet_of_run' 8 (by kernel_rfl) (by kernel_rfl)
theorem cellsOf9 : Tryd.prog.cellsOf 9 = 1 := by kernel_rfl
theorem cellsOf3 : Tryd.prog.cellsOf 3 = 1 := by kernel_rfl
/-- Texts that came in. -/
def Came (W : World) (a : Option Addr) (len : Nat) : Prop := len = 0 ∨ ∃ b off, ∃ ss : Nat → ByteArray, a = some ⟨b, off, none⟩ ∧ b < W.heap.size ∧ ∀ k, k < len → W.cell? ⟨b, off + k, none⟩ = some (.string (ss k))
theorem came_of {H : Type} {enc : TypeId × Value → H} {W : World} {a0 : Option Addr} {len cap fuel : Nat} {x : DataW H × List MemPlace}
    (hf : DataW.trod enc Tryd.prog W 0 (fun _ => true) true fuel 23 [.slice a0 len cap] = some x) :
    Came W a0 len ∧ len ≤ cap ∧ cap ≤ maxLen ∧ ∀ p ∈ x.2, p.block < W.heap.size := by
  rcases open_strings Tryd.underlying23 Tryd.underlying9 cellsOf9 hf with ⟨hcs, hx⟩ | ⟨a, len', cap', ss, hcs, _, hl, hm, hz, hx, hcell, hsz⟩
  · simp at hcs
    obtain ⟨rfl, rfl, rfl⟩ := hcs
    subst hx
    exact ⟨.inl rfl, Nat.le_refl _, Nat.zero_le _, fun p hp => by cases hp⟩
  · simp at hcs
    obtain ⟨rfl, rfl, rfl⟩ := hcs
    subst hx
    simp only [if_true] at hz
    refine ⟨?_, hl, hm, fun p hp => ?_⟩
    · by_cases h0 : len = 0
      · exact .inl h0
      · obtain ⟨b, off, spot⟩ := a
        have hspot : spot = none := by simpa [Addr.add] using World.cell?_spot (hcell 0 (by omega))
        subst hspot
        refine .inr ⟨b, off, fun k => ss.getD k ByteArray.empty, rfl, W.block_lt_of_cell? _ (hcell 0 (by omega)), fun k hk => ?_⟩
        rw [← addr_any]
        exact hcell k (by omega)
    · obtain ⟨i, hi, rfl⟩ := MemPlace.mem_row.1 hp
      exact World.block_lt_of_cell? W (a.add i) (hcell i hi) |> fun h => (show (a.add i).block = a.block by unfold Addr.add; split <;> rfl) ▸ h
/-- Numbers that came in. -/
theorem nums_of {H : Type} {enc : TypeId × Value → H} {W : World} {a0 : Option Addr} {len cap fuel : Nat} {x : DataW H × List MemPlace}
    (hf : DataW.trod enc Tryd.prog W 0 (fun _ => true) true fuel 22 [.slice a0 len cap] = some x) :
    (∃ M, RdX elI W (.slice a0 len cap) M) ∧ ∀ p ∈ x.2, p.block < W.heap.size := by
  rcases open_ints Tryd.underlying22 Tryd.underlying3 cellsOf3 hf with ⟨hcs, hx⟩ | ⟨a, len', cap', zs, hcs, _, hl, hm, hz, hx, hcell, hwf⟩
  · simp at hcs
    obtain ⟨rfl, rfl, rfl⟩ := hcs
    subst hx
    exact ⟨⟨[], RdX.nil W⟩, fun p hp => by cases hp⟩
  · simp at hcs
    obtain ⟨rfl, rfl, rfl⟩ := hcs
    subst hx
    simp only [if_true] at hz
    have hlen : (zs.take len).length = len := by rw [List.length_take]; omega
    refine ⟨⟨zs.take len, some a, cap, by rw [hlen], by rw [hlen]; exact hl, hm, ?_⟩, fun p hp => ?_⟩
    · by_cases h0 : zs.take len = []
      · exact .inl h0
      · have hl0 : 0 < len := by
          rcases Nat.eq_zero_or_pos len with h | h
          · rw [h] at h0; exact absurd rfl h0
          · exact h
        obtain ⟨b, off, spot⟩ := a
        have hspot : spot = none := by simpa [Addr.add] using World.cell?_spot (hcell 0 (by omega))
        subst hspot
        refine .inr ⟨b, off, rfl, fun j u hu => ?_⟩
        rw [flI, List.getElem?_map] at hu
        obtain ⟨z, hz1, rfl⟩ := Option.map_eq_some_iff.1 hu
        have hi := (List.getElem?_eq_some_iff.1 hz1).1
        rw [hlen] at hi
        rw [List.getElem?_take, if_pos hi] at hz1
        have := hcell j (by omega)
        rw [addr_any, List.getD_eq_getElem?_getD, hz1] at this
        exact this
    · obtain ⟨i, hi, rfl⟩ := MemPlace.mem_row.1 hp
      exact World.block_lt_of_cell? W (a.add i) (hcell i hi) |> fun h => (show (a.add i).block = a.block by unfold Addr.add; split <;> rfl) ▸ h
end Go.Proofs.YtomghpielgkigaaDoor
