/-
  What the statements' own look 'awake' hands back, where the two tables hold their numbers: true; no older memory is changed.
-/
import Derived.Test.YtiagngggnhdefaaDoorSum
import Derived.Test.YtiagngggnhdefaaDoorPoint
namespace Go.Proofs.YtiagngggnhdefaaDoor
open Go.RowKit

theorem sum_nothing : sumI [] = [227, 176, 196, 66, 152, 252, 28, 20, 154, 251, 244, 200, 153, 111, 185, 36, 39, 174, 65, 228, 100, 155, 147, 76, 164, 149, 153, 27, 120, 82, 184, 85] := by kernel_rfl
theorem sum_abc : sumI [97, 98, 99] = [186, 120, 22, 191, 143, 1, 207, 234, 65, 65, 64, 222, 93, 174, 34, 35, 176, 3, 97, 163, 150, 23, 122, 156, 180, 16, 255, 97, 242, 0, 21, 173] := by kernel_rfl
theorem pnt_nothing : pntI [] = 16406829232824261652 := by kernel_rfl

set_option maxRecDepth 100000 in
set_option maxHeartbeats 3200000 in
theorem awake_any (w : World) (hI : InitIn w) (hK : KeysIn w) : Calls Tryd.prog 9 #[] w fun e w' => e = .returned (.bool true) ∧ Below w.heap.size w w' := by
  have hp := hI.pos
  have HI := Lib.hid hI
  have HK := Lib.hid hK
  clear hI hK
  go_enter Tryd.func9, Tryd.ntmps9
  go_wp2_with fail
  refine (sum_nil [] [] rfl (by decide) 0 rfl rfl w HI.out HK.out).mono ?_
  rintro e w1 ⟨rfl, hb1⟩
  obtain ⟨A, hA⟩ : ∃ A, A = sumI [] := ⟨_, rfl⟩
  rw [← hA]
  have hAl : A.length = 32 := by rw [hA]; exact sumI_length _
  have HAL := Lib.hid hAl
  have HA := Lib.hid hA
  have HI1 := Lib.hid (HI.out.below hb1 (by omega))
  have HK1 := Lib.hid (HK.out.below hb1 (by omega))
  have hs1 := hb1.size
  clear hA hAl
  go_wp2_with (refine wpList_store_row rfl 33 (.tmp 1) (.tmp 3) rfl w1.heap.size (ub A) rfl rfl 33 (ub (zs 32)) (heap_alloc_new w1 _) (size33 HAL.out) (same_ub (by rw [HAL.out]; rfl)) (ub_one _) ?_; rw [World.setRow_alloc_new])
  obtain ⟨w3, hw3, g0, g1, gs, hb3⟩ := two_w w1 (ub A) #[.string ⟨#[97]⟩, .string ⟨#[98, 99]⟩] 33 9
  rw [← hw3]
  have hb3' : Below w.heap.size w w3 := hb1.trans (hb3.mono hs1)
  have hcp : ∀ k, k < ([[97], [98, 99]] : List (List UInt8)).length → w3.cell? ⟨w1.heap.size + 1, k, none⟩ = some (str (([[97], [98, 99]] : List (List UInt8)).getD k [])) := by
    intro k hk
    rw [cell_of_row w3 _ k _ _ _ g1]
    match k, hk with
    | 0, _ => rfl
    | 1, _ => rfl
  refine (sum_some [97, 98, 99] [[97], [98, 99]] rfl (by decide) (w1.heap.size + 1) 2 2 rfl w3 (HI.out.below hb3' (by omega)) (HK.out.below hb3' (by omega)) (by omega) hcp (by decide)).mono ?_
  rintro e w4 ⟨rfl, hb4⟩
  obtain ⟨B, hB⟩ : ∃ B, B = sumI [97, 98, 99] := ⟨_, rfl⟩
  rw [← hB]
  have hBl : B.length = 32 := by rw [hB]; exact sumI_length _
  have HBL := Lib.hid hBl
  have HB := Lib.hid hB
  have hb4' : Below w.heap.size w w4 := hb3'.trans (hb4.mono (by omega))
  have k0 := (hb4.block w1.heap.size (by omega)).trans g0
  have K0 := Lib.hid k0
  have hs4 : w1.heap.size + 2 ≤ w4.heap.size := by have := hb4.size; omega
  clear hcp hb4 hb3 hb3' g0 g1 gs hw3 hB hBl k0 HI1 HK1
  obtain ⟨G, hG⟩ : ∃ G, G = w1.heap.size := ⟨_, rfl⟩
  rw [← hG] at K0 hs1 hs4 ⊢
  clear hG hb1
  have k5 : (w4.alloc (.cells (ub B) 33)).heap[G]? = some (.cells (ub A) 33 (0, 0)) := (Below.heap_alloc w4 _ _ (by omega)).trans K0.out
  have k6 : (w4.alloc (.cells (ub B) 33)).heap[w4.heap.size]? = some (.cells (ub B) 33 (0, 0)) := heap_alloc_new w4 _
  have hb5 : Below w.heap.size w (w4.alloc (.cells (ub B) 33)) := hb4'.alloc (by omega) _
  obtain ⟨w5, hw5⟩ : ∃ w5, w5 = w4.alloc (.cells (ub B) 33) := ⟨_, rfl⟩
  have a0 := cell_ub (w := w5) (by rw [hw5]; exact k5) 0 (by rw [HAL.out]; decide)
  have a31 := cell_ub (w := w5) (by rw [hw5]; exact k5) 31 (by rw [HAL.out]; decide)
  have b0 := cell_ub (w := w5) (by rw [hw5]; exact k6) 0 (by rw [HBL.out]; decide)
  have b1 := cell_ub (w := w5) (by rw [hw5]; exact k6) 1 (by rw [HBL.out]; decide)
  have b31 := cell_ub (w := w5) (by rw [hw5]; exact k6) 31 (by rw [HBL.out]; decide)
  rw [show A.getD 0 0 = 227 by rw [HA.out, sum_nothing]; rfl] at a0
  rw [show A.getD 31 0 = 85 by rw [HA.out, sum_nothing]; rfl] at a31
  rw [show B.getD 0 0 = 186 by rw [HB.out, sum_abc]; rfl] at b0
  rw [show B.getD 1 0 = 120 by rw [HB.out, sum_abc]; rfl] at b1
  rw [show B.getD 31 0 = 173 by rw [HB.out, sum_abc]; rfl] at b31
  rw [← hw5] at hb5
  have HW5 := Lib.hid hw5
  have HB5 := Lib.hid hb5
  clear k5 k6 hw5 hb5 hb4'
  go_wp2_with (first
    | (refine wpList_store_row rfl 33 (.tmp 2) (.tmp 5) rfl w4.heap.size (ub B) rfl rfl 33 (ub (zs 32)) (heap_alloc_new w4 _) (size33 HBL.out) (same_ub (by rw [HBL.out]; rfl)) (ub_one _) ?_; rw [World.setRow_alloc_new, ← HW5.out])
    | fail)
  refine (pad_mid 0 w5 (by decide)).mono ?_
  rintro e w6 ⟨rfl, hbq1⟩
  obtain ⟨t1, ht1⟩ : ∃ t : ByteArray, t = ⟨(padL 0).toArray⟩ := ⟨_, rfl⟩
  have hz1 : t1.size = 64 := by rw [ht1]; rfl
  unfold str
  rw [← ht1]
  clear ht1
  go_wp2_with fail
  refine (pad_mid 55 w6 (by decide)).mono ?_
  rintro e w7 ⟨rfl, hbq2⟩
  obtain ⟨t2, ht2⟩ : ∃ t : ByteArray, t = ⟨(padL 55).toArray⟩ := ⟨_, rfl⟩
  have hz2 : t2.size = 9 := by rw [ht2]; rfl
  unfold str
  rw [← ht2]
  clear ht2
  go_wp2_with fail
  refine (pad_mid 56 w7 (by decide)).mono ?_
  rintro e w8 ⟨rfl, hbq3⟩
  obtain ⟨t3, ht3⟩ : ∃ t : ByteArray, t = ⟨(padL 56).toArray⟩ := ⟨_, rfl⟩
  have hz3 : t3.size = 72 := by rw [ht3]; rfl
  unfold str
  rw [← ht3]
  clear ht3
  go_wp2_with fail
  have hb8 : Below w.heap.size w w8 := HB5.out.trans (hbq1.mono HB5.out.size |>.trans (hbq2.mono (Nat.le_trans HB5.out.size hbq1.size) |>.trans (hbq3.mono (Nat.le_trans HB5.out.size (Nat.le_trans hbq1.size hbq2.size)))))
  refine (point_any (.slice none 0 0) [] w8 (sum_nil [] [] rfl (by decide) 0 rfl rfl w8 (HI.out.below hb8 (by omega)) (HK.out.below hb8 (by omega)))).mono ?_
  rintro e w9 ⟨rfl, hb9⟩
  rw [pnt_nothing]
  have hb9' : Below w.heap.size w w9 := hb8.trans (hb9.mono hb8.size)
  clear hb9 hb8 hbq1 hbq2 hbq3
  go_wp2
  go_ret
  exact ⟨rfl, hb9'⟩
end Go.Proofs.YtiagngggnhdefaaDoor
