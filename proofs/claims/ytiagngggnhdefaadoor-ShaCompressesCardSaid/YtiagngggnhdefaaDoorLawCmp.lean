/-
  The walk of the law ShaCompresses: for every eight and every sixteen numbers it returns true, where the two tables hold their numbers; no older memory is changed.
-/
import Derived.Test.YtiagngggnhdefaaDoorAwake
import Derived.Test.YtiagngggnhdefaaDoorRCompress
import Derived.Test.YtiagngggnhdefaaDoorEqArr
import Derived.Deep.RegionHeld3
namespace Go.Proofs.YtiagngggnhdefaaDoor
open Go.RowKit

set_option maxRecDepth 100000 in
set_option maxHeartbeats 1600000 in
theorem lawCompresses_any (h xs : List Int) (hlh : h.length = 8) (hlx : xs.length = 16) (w : World) (hI : InitIn w) (hK : KeysIn w) :
    Calls Tryd.prog 4 #[.agg (ua h), .agg (ua xs)] w fun e w' => e = .returned (.bool true) ∧ Below w.heap.size w w' := by
  have hp := hI.pos
  have HI := Lib.hid hI
  have HK := Lib.hid hK
  have HL := Lib.hid hlh
  have HX := Lib.hid hlx
  clear hI hK hlh hlx
  go_enter Tryd.func4, Tryd.ntmps4
  go_wp2_with fail
  obtain ⟨w1, hw1, g0, g1, gs, hb1⟩ := two_w w (ua h) (ua xs) 28 23
  rw [← hw1]
  refine (awake_any w1 (InitIn.below HI.out hb1 hp) (KeysIn.below HK.out hb1 (Nat.lt_of_lt_of_le Nat.zero_lt_one (Nat.le_of_lt hp)))).mono ?_
  rintro e w2 ⟨rfl, hb2⟩
  have R2 : w2.rangeAt w.heap.size 0 (ui h) ∧ w2.rangeAt (w.heap.size + 1) 0 (ui xs) := ⟨range_below (ui_range g0) hb2 (by omega), range_below (ui_range g1) hb2 (by omega)⟩
  have hs2 : w.heap.size + 1 < w2.heap.size := by have := hb2.size; omega
  have hb : Below w.heap.size w w2 := hb1.trans (hb2.mono (by omega))
  have HR2 := Lib.hid R2
  have HK2 := Lib.hid (KeysIn.below HK.out hb.drew (Nat.lt_of_lt_of_le Nat.zero_lt_one (Nat.le_of_lt hp)))
  have s8 : (Tryd.prog.info? 28).map (·.size) = some (ui h).length := by rw [info28]; simp [ui, HL.out]
  have s16 : (Tryd.prog.info? 23).map (·.size) = some (ui xs).length := by rw [info23]; simp [ui, HX.out]
  have q28 := fun w => eq28 (compI h xs) (compI_length h xs) w
  have g28 := gt28
  clear hw1 g0 g1 gs hb1 hb2 R2
  go_wp2_with fail
  refine wp_region_held_drew (S := fun w' => w'.rangeAt w.heap.size 0 (ui h) ∧ w'.rangeAt (w.heap.size + 1) 0 (ui xs)) (by kernel_rfl) HR2.out (fun hS0 => ?_)
  refine wpAnyH_take (i := 0) (v := .bool true) rfl (by kernel_rfl) (by kernel_rfl) (by kernel_rfl) (fun _ _ _ h => h) (Or.inl ⟨by rfl, by intro w _; go_simp⟩) hS0 ?_
  refine wpAnyH_take (i := 1) (v := .bool true) rfl (by kernel_rfl) (by kernel_rfl) (by kernel_rfl) (fun _ _ _ h => h) (Or.inl ⟨by rfl, by intro w _; go_simp⟩) hS0 ?_
  refine wpAnyH_take (i := 2) rfl (by kernel_rfl) (by kernel_rfl) (by kernel_rfl) (fun _ _ _ h => h) (yieldsIf_load_mid (by kernel_rfl) 28 (.tmp 2) rfl w.heap.size 0 (by kernel_rfl) (ui h) (.array 8 22) (fun _ h => h.1) und28 rfl s8) hS0 ?_
  refine wpAnyH_take (i := 3) rfl (by kernel_rfl) (by kernel_rfl) (by kernel_rfl) (fun _ _ _ h => h) (yieldsIf_load_mid (by kernel_rfl) 23 (.tmp 3) rfl (w.heap.size + 1) 0 (by kernel_rfl) (ui xs) (.array 16 22) (fun _ h => h.2) und23 rfl s16) hS0 ?_
  refine wpAnyH_take (i := 5) rfl (by kernel_rfl) (by kernel_rfl) (by kernel_rfl) (fun _ _ _ h => h) (yieldsIf_load_mid (by kernel_rfl) 28 (.tmp 2) rfl w.heap.size 0 (by kernel_rfl) (ui h) (.array 8 22) (fun _ h => h.1) und28 rfl s8) hS0 ?_
  refine wpAnyH_take (i := 6) rfl (by kernel_rfl) (by kernel_rfl) (by kernel_rfl) (fun _ _ _ h => h) (yieldsIf_load_mid (by kernel_rfl) 23 (.tmp 3) rfl (w.heap.size + 1) 0 (by kernel_rfl) (ui xs) (.array 16 22) (fun _ h => h.2) und23 rfl s16) hS0 ?_
  refine wpAnyH_ready (rs := [4]) (by kernel_rfl) (by simp) ?_
  refine AllReadyH.cons rfl (fun K hK => ?_) AllReadyH.nil
  go_simp
  (go_at_call 12; refine (compress_any h xs HL.out HX.out _ HK2.out).mono ?_; rintro e wA ⟨rfl, hbwA⟩)
  have hSwA : wA.rangeAt w.heap.size 0 (ui h) ∧ wA.rangeAt (w.heap.size + 1) 0 (ui xs) := ⟨range_below (w := w2.drew) HR2.out.1 hbwA (show w.heap.size < w2.heap.size by omega), range_below (w := w2.drew) HR2.out.2 hbwA hs2⟩
  refine hK.out _ _ hSwA (fun _ => ?_)
  clear hK K
  refine wpAnyH_ready (rs := [7]) (by kernel_rfl) (by simp) ?_
  refine AllReadyH.cons rfl (fun K hK => ?_) AllReadyH.nil
  go_simp
  (go_at_call 13; refine (rcompress_any h xs HL.out HX.out _).mono ?_; rintro e wB ⟨rfl, hbwB⟩)
  have hSwB : wB.rangeAt w.heap.size 0 (ui h) ∧ wB.rangeAt (w.heap.size + 1) 0 (ui xs) := ⟨range_below hSwA.1 hbwB (Nat.lt_of_lt_of_le (show w.heap.size < w2.drew.heap.size by show w.heap.size < w2.heap.size; omega) hbwA.size), range_below hSwA.2 hbwB (Nat.lt_of_lt_of_le hs2 hbwA.size)⟩
  refine hK.out _ _ hSwB (fun _ => ?_)
  clear hK K
  refine wpAnyH_take (i := 8) (v := .bool true) rfl (by kernel_rfl) (by kernel_rfl) (by kernel_rfl) (fun _ _ _ h => h) (Or.inl ⟨by rfl, by intro w _; go_simp⟩) hSwB ?_
  refine wpAnyH_take (i := 9) (v := .bool true) rfl (by kernel_rfl) (by kernel_rfl) (by kernel_rfl) (fun _ _ _ h => h) (Or.inl ⟨by rfl, by intro w _; go_simp⟩) hSwB ?_
  refine wpAnyH_take (i := 10) (v := .bool true) rfl (by kernel_rfl) (by kernel_rfl) (by kernel_rfl) (fun _ _ _ h => h) (Or.inl ⟨by rfl, by intro w _; go_simp⟩) hSwB ?_
  refine wpAnyH_done (by kernel_rfl) ?_ _
  go_wp2
  go_ret
  exact ⟨rfl, hb.drew.trans ((hbwA.mono (show w.heap.size ≤ w2.heap.size by omega)).trans (hbwB.mono (Nat.le_trans (show w.heap.size ≤ w2.drew.heap.size by show w.heap.size ≤ w2.heap.size; omega) hbwA.size)))⟩
end Go.Proofs.YtiagngggnhdefaaDoor
