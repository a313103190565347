/-
  What the document's Compress hands back, for any eight and any sixteen numbers: the same state behind the block; no older memory is changed.
-/
import Derived.Test.YtiagngggnhdefaaDoorComp
import Derived.Test.YtiagngggnhdefaaDoorRExpand
import Derived.Great.BuildSlice
namespace Go.Proofs.YtiagngggnhdefaaDoor
open Go.RowKit

theorem first_any (w : World) : Calls Tryd.prog 26 #[] w fun e w' => e = .returned (.agg (ua ii)) ∧ Below w.heap.size w w' := by
  go_enter Tryd.func26, Tryd.ntmps26
  go_wp2
  change bodyPost _ _ _ _ _ (w.alloc (.cells (ua ii) 28))
  exact bodyPost_ret (v := .agg (ua ii)) (results_cell_row rfl _ _ w.heap.size 28 (ua ii) (0, 0) (.array 8 22) rfl (heap_alloc_new w _) und28 rfl (size28 rfl)) rfl ⟨rfl, (Below.refl _ _).alloc (Nat.le_refl _) _⟩
set_option maxRecDepth 100000 in
theorem constants_any (w : World) : Calls Tryd.prog 24 #[] w fun e w' => e = .returned (.agg (ua kk)) ∧ Below w.heap.size w w' := by
  go_enter Tryd.func24, Tryd.ntmps24
  go_wp2_with (first
    | (refine wpList_buildFlatArr rfl 25 22 64 _ rfl .u32 kk und25a size22 (by kernel_rfl) (by kernel_rfl) ?_)
    | (go_loud (refine wpList_store_row rfl 25 (.tmp 0) (.tmp 1) rfl w.heap.size (ua kk) rfl rfl 25 (ua (zs 64)) (heap_alloc_new w _) (size25 rfl) rfl (ua_one _) ?_; rw [World.setRow_alloc_new])))
  exact bodyPost_ret (v := .agg (ua kk)) (results_cell_row rfl _ _ w.heap.size 25 (ua kk) (0, 0) (.array 64 22) rfl (heap_alloc_new w _) und25a rfl (size25 rfl)) rfl ⟨rfl, (Below.refl _ _).alloc (Nat.le_refl _) _⟩
end Go.Proofs.YtiagngggnhdefaaDoor
