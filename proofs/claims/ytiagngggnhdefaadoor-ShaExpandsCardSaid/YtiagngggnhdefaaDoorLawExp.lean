/-
  The walk of the law ShaExpands: for every sixteen numbers it returns true, where the two tables hold their numbers; no older memory is changed.
-/
import Derived.Test.YtiagngggnhdefaaDoorAwake
import Derived.Test.YtiagngggnhdefaaDoorRExpand
import Derived.Test.YtiagngggnhdefaaDoorEqArr
import Derived.Deep.RegionHeld3
namespace Go.Proofs.YtiagngggnhdefaaDoor
open Go.RowKit

set_option maxRecDepth 100000 in
set_option maxHeartbeats 1600000 in
theorem lawExpands_any (xs : List Int) (hl : xs.length = 16) (w : World) (hI : InitIn w) (hK : KeysIn w) :
    Calls Tryd.prog 3 #[.agg (ua xs)] w fun e w' => e = .returned (.bool true) ∧ Below w.heap.size w w' := by
  have hp := hI.pos
  have HI := Lib.hid hI
  have HK := Lib.hid hK
  have HL := Lib.hid hl
  clear hI hK hl
  go_enter Tryd.func3, Tryd.ntmps3
  go_wp2_with fail
  have hb1 : Below w.heap.size w (w.alloc (.cells (ua xs) 23)) := (Below.refl _ _).alloc (Nat.le_refl _) _
  have h1 : (w.alloc (.cells (ua xs) 23)).heap[w.heap.size]? = some (.cells (ua xs) 23 (0, 0)) := heap_alloc_new w _
  have hs1 : w.heap.size < (w.alloc (.cells (ua xs) 23)).heap.size := by simp
  obtain ⟨w1, hw1⟩ : ∃ w1, w1 = w.alloc (.cells (ua xs) 23) := ⟨_, rfl⟩
  rw [← hw1] at hb1 h1 hs1 ⊢
  refine (awake_any w1 (HI.out.below hb1 hp) (HK.out.below hb1 (by omega))).mono ?_
  rintro e w2 ⟨rfl, hb2⟩
  have R2 : w2.rangeAt w.heap.size 0 (ui xs) := range_below (ui_range h1) hb2 hs1
  have hs2 : w.heap.size < w2.heap.size := Nat.lt_of_lt_of_le hs1 hb2.size
  have hb : Below w.heap.size w w2 := hb1.trans (hb2.mono (by omega))
  have HR2 := Lib.hid R2
  have s16 : (Tryd.prog.info? 23).map (·.size) = some (ui xs).length := by rw [info23]; simp [ui, HL.out]
  have sl : (ui xs).length = 16 := by simp [ui, HL.out]
  have u23 := und23
  have so : ∀ v ∈ ui xs, v.oneCell' = true := ui_one
  have q25 := fun w => eq25 (sched xs 48) (sched48 HL.out) w
  have g25 := gt25
  clear hw1 h1 hb1 hb2 R2
  go_wp2_with fail
  refine wp_region_held_drew (S := fun w' => w'.rangeAt w.heap.size 0 (ui xs)) (by kernel_rfl) HR2.out (fun hS0 => ?_)
  refine wpAnyH_take (i := 0) (v := .bool true) rfl (by kernel_rfl) (by kernel_rfl) (by kernel_rfl) (fun _ _ _ h => h) (Or.inl ⟨by rfl, by intro w _; go_simp⟩) hS0 ?_
  refine wpAnyH_take (i := 1) (v := .bool true) rfl (by kernel_rfl) (by kernel_rfl) (by kernel_rfl) (fun _ _ _ h => h) (Or.inl ⟨by rfl, by intro w _; go_simp⟩) hS0 ?_
  refine wpAnyH_take (i := 2) rfl (by kernel_rfl) (by kernel_rfl) (by kernel_rfl) (fun _ _ _ h => h) (yieldsIf_load_mid (by kernel_rfl) 23 (.tmp 1) rfl w.heap.size 0 (by kernel_rfl) (ui xs) (.array 16 22) (fun _ h => h) und23 rfl s16) hS0 ?_
  refine wpAnyH_take (i := 4) rfl (by kernel_rfl) (by kernel_rfl) (by kernel_rfl) (fun _ _ _ h => h) (yieldsIf_load_mid (by kernel_rfl) 23 (.tmp 1) rfl w.heap.size 0 (by kernel_rfl) (ui xs) (.array 16 22) (fun _ h => h) und23 rfl s16) hS0 ?_
  refine wpAnyH_ready (rs := [3]) (by kernel_rfl) (by simp) ?_
  refine AllReadyH.cons rfl (fun K hK => ?_) AllReadyH.nil
  go_simp
  (go_at_call 10; refine (expand_any xs HL.out _).mono ?_; rintro e wA ⟨rfl, hbwA⟩)
  have hSwA : wA.rangeAt w.heap.size 0 (ui xs) := range_below (w := w2.drew) HR2.out hbwA hs2
  refine hK.out _ _ hSwA (fun _ => ?_)
  clear hK K
  refine wpAnyH_ready (rs := [5]) (by kernel_rfl) (by simp) ?_
  refine AllReadyH.cons rfl (fun K hK => ?_) AllReadyH.nil
  go_simp
  (go_at_call 11; refine (rexpand_any xs HL.out _).mono ?_; rintro e wB ⟨rfl, hbwB⟩)
  have hSwB : wB.rangeAt w.heap.size 0 (ui xs) := range_below hSwA hbwB (Nat.lt_of_lt_of_le hs2 hbwA.size)
  refine hK.out _ _ hSwB (fun _ => ?_)
  clear hK K
  refine wpAnyH_take (i := 6) (v := .bool true) rfl (by kernel_rfl) (by kernel_rfl) (by kernel_rfl) (fun _ _ _ h => h) (Or.inl ⟨by rfl, by intro w _; go_simp⟩) hSwB ?_
  refine wpAnyH_take (i := 7) (v := .bool true) rfl (by kernel_rfl) (by kernel_rfl) (by kernel_rfl) (fun _ _ _ h => h) (Or.inl ⟨by rfl, by intro w _; go_simp⟩) hSwB ?_
  refine wpAnyH_take (i := 8) (v := .bool true) rfl (by kernel_rfl) (by kernel_rfl) (by kernel_rfl) (fun _ _ _ h => h) (Or.inl ⟨by rfl, by intro w _; go_simp⟩) hSwB ?_
  refine wpAnyH_done (by kernel_rfl) ?_ _
  go_wp2
  go_ret
  exact ⟨rfl, hb.drew.trans ((hbwA.mono (show w.heap.size ≤ w2.drew.heap.size from Nat.le_of_lt hs2)).trans (hbwB.mono (Nat.le_trans (show w.heap.size ≤ w2.drew.heap.size from Nat.le_of_lt hs2) hbwA.size)))⟩
end Go.Proofs.YtiagngggnhdefaaDoor
