/-
  What the row's list of the three tables gives the walk, and a world that meets it. No statement is proved here.
-/
import Derived.Test.YtpeojicimmofjaaDoorCards
import Derived.Test.YtpeojicimmofjaaDoorTie
import Derived.ProofKit
import Derived.OpenShut
import Derived.Deep.DeepHandedRow
import Derived.Lib.LaidTab
import Derived.Lib.ItoaNum
namespace Go.Proofs.YtpeojicimmofjaaDoor
open Go.RowKit

theorem ownKnobNone : ownKnob Tryd.prog.godebug = none := by kernel_rfl
theorem laidOutT : laidOutB Tryd.prog = true := by kernel_rfl
theorem gPow : Tryd.prog.globalNamed "internal/strconv.uint64pow10" = some 0 := by kernel_rfl
theorem tPow : (Tryd.prog.globals[0]?).map (·.type) = some 69 := by kernel_rfl
theorem cOf61 : Tryd.prog.cellsOf 61 = 1 := by kernel_rfl
theorem cOf69 : Tryd.prog.cellsOf 69 = 20 := by kernel_rfl
def theList : List (String × DataW Unit) := [("math/bits.deBruijn32tab", Rows.laid_math_bits_deBruijn32tab), ("math/bits.deBruijn64tab", Rows.laid_math_bits_deBruijn64tab), ("internal/strconv.uint64pow10", Rows.laid_internal_strconv_uint64pow10)]
theorem powData : (Rows.laid_internal_strconv_uint64pow10 : DataW Unit) = Lib.tabData .u64 Lib.pow10Tab := by kernel_rfl

/-- WHAT THE ROW's LIST GIVES: the table of powers of ten holds its numbers. -/
theorem of_laid {W : World} (h : laidMet Tryd.prog theList W) : Lib.TabIs Tryd.prog W "internal/strconv.uint64pow10" .u64 Lib.pow10Tab := by
  obtain ⟨ps, ⟨g0, t0, cs0, f0, p0, q0, hg0, ht0, hv0, hd0, ⟨g1, t1, cs1, f1, p1, q1, hg1, ht1, hv1, hd1, ⟨g2, t2, cs2, f2, p2, q2, hg2, ht2, hv2, hd2, _, _⟩, _⟩, _⟩, _, _⟩ := h
  obtain rfl := Option.some.inj (gPow.symm.trans hg2)
  obtain rfl := Option.some.inj (tPow.symm.trans ht2)
  rw [powData] at hd2
  have e2 := Lib.cells_of_tab Tryd.underlying69 Tryd.underlying61 cOf61 cOf69 hd2
  unfold Lib.TabIs
  rw [hv2, ← e2]

def putRow (cs : Array Value) : Obj → Obj
  | .cells _ t frozen => .cells cs t frozen
  | o => o
def valOf : DataW Unit → Value
  | .lit (.int k z) => .int k z
  | _ => .bool false
def rowOf : DataW Unit → Array Value
  | .agg parts => (parts.map valOf).toArray
  | _ => #[]
/-- A WORLD FOR THE WITNESS: the settled one, the three tables holding their numbers. -/
noncomputable def laidWorld (os : Os) : World :=
  { World.holding Tryd.prog os ⟨#[], #[], []⟩ with heap := (((World.holding Tryd.prog os ⟨#[], #[], []⟩).heap.modify 0 (putRow (rowOf Rows.laid_internal_strconv_uint64pow10))).modify 1 (putRow (rowOf Rows.laid_math_bits_deBruijn32tab))).modify 2 (putRow (rowOf Rows.laid_math_bits_deBruijn64tab)) }
theorem laid_met (os : Os) (args : Array Value) : laidMet Tryd.prog theList ((laidWorld os).forCall (fun _ _ => 0) ⟨#[], args, []⟩).memory :=
  laidMet_of_run' 8 (by kernel_rfl) (by kernel_rfl)
end Go.Proofs.YtpeojicimmofjaaDoor
