/-
  What the rows' list of the two tables gives the walks, and a world that meets it. No statement is proved here.
-/
import Derived.Test.YtiagngggnhdefaaDoorCards
import Derived.Test.YtiagngggnhdefaaDoorTie
import Derived.Test.YtiagngggnhdefaaDoorAwake
import Derived.ProofKit
import Derived.OpenShut
import Derived.Deep.DeepHandedRow
import Derived.Lib.LaidTab
namespace Go.Proofs.YtiagngggnhdefaaDoor
open Go.RowKit

theorem ownKnobNone : ownKnob Tryd.prog.godebug = none := by kernel_rfl
theorem gKeys : Tryd.prog.globalNamed "fingerpost/sha.keys" = some 0 := by kernel_rfl
theorem gInit : Tryd.prog.globalNamed "fingerpost/sha.initial" = some 1 := by kernel_rfl
theorem tKeys : (Tryd.prog.globals[0]?).map (·.type) = some 25 := by kernel_rfl
theorem tInit : (Tryd.prog.globals[1]?).map (·.type) = some 28 := by kernel_rfl
theorem und22i : Tryd.prog.underlying 22 = some (.int .u32) := by kernel_rfl
theorem cOf22 : Tryd.prog.cellsOf 22 = 1 := by kernel_rfl
theorem cOf25 : Tryd.prog.cellsOf 25 = 64 := by kernel_rfl
theorem cOf28 : Tryd.prog.cellsOf 28 = 8 := by kernel_rfl
def theList : List (String × DataW Unit) := [("fingerpost/sha.keys", Rows.laid_fingerpost_sha_keys), ("fingerpost/sha.initial", Rows.laid_fingerpost_sha_initial)]

/-- WHAT THE ROWS' LIST GIVES: both tables hold their numbers. -/
theorem of_laid {W : World} (h : laidMet Tryd.prog theList W) : InitIn W ∧ KeysIn W := by
  obtain ⟨ps, ⟨g0, t0, cs0, f0, p0, q0, hg0, ht0, hv0, hd0, ⟨g1, t1, cs1, f1, p1, q1, hg1, ht1, hv1, hd1, _, _⟩, _⟩, _, _⟩ := h
  obtain rfl := Option.some.inj (gKeys.symm.trans hg0)
  obtain rfl := Option.some.inj (gInit.symm.trans hg1)
  obtain rfl := Option.some.inj (tKeys.symm.trans ht0)
  obtain rfl := Option.some.inj (tInit.symm.trans ht1)
  have e0 := Lib.cells_of_tab (zs := kk) und25a und22i cOf22 cOf25 hd0
  have e1 := Lib.cells_of_tab (zs := ii) und28 und22i cOf22 cOf28 hd1
  constructor
  · have hc : cs1 = ua ii := by
      have : cs1.toList.toArray = (ii.map (Value.int .u32)).toArray := by rw [e1]
      simpa [ua, ui] using this
    simp only [World.var?, gInit, Option.bind_some] at hv1
    split at hv1
    · rename_i cs t fr hh
      cases hv1
      exact ⟨t, fr, by rw [hh, hc]⟩
    · cases hv1
  · intro j hj
    rw [World.var?_cell gKeys hv0 j]
    have : cs0[j]? = cs0.toList[j]? := by simp
    rw [this, e0]
    have hjk : j < kk.length := hj
    simp [hjk]

def putRow (cs : Array Value) : Obj → Obj
  | .cells _ t frozen => .cells cs t frozen
  | o => o
/-- A WORLD FOR THE WITNESSES: the settled one, the two tables holding their numbers. -/
noncomputable def laidWorld (os : Os) : World :=
  { World.holding Tryd.prog os ⟨#[], #[], []⟩ with heap := ((World.holding Tryd.prog os ⟨#[], #[], []⟩).heap.modify 0 (putRow (ua kk))).modify 1 (putRow (ua ii)) }
theorem laid_met (os : Os) (args : Array Value) : laidMet Tryd.prog theList ((laidWorld os).forCall (fun _ _ => 0) ⟨#[], args, []⟩).memory :=
  laidMet_of_run' 8 (by kernel_rfl) (by kernel_rfl)
end Go.Proofs.YtiagngggnhdefaaDoor
