/-
  What sha.Point hands back wherever sha.Sum hands back a hash: the hash's first eight bytes as a number; no older memory is changed.
-/
import Derived.Test.YtomghpielgkigaaDoorSumMath
import Derived.Lib.Hide
namespace Go.Proofs.YtomghpielgkigaaDoor
open Go.RowKit

set_option maxRecDepth 100000 in
set_option maxHeartbeats 1600000 in
theorem point_any (v : Value) (ms : List UInt8) (w : World) (hc : Calls Tryd.prog 35 #[v] w fun e w' => e = .returned (.agg (ub (sumI ms))) ∧ Below w.heap.size w w') :
    Calls Tryd.prog 24 #[v] w fun e w' => e = .returned (.int .u64 (pntI ms)) ∧ Below w.heap.size w w' := by
  have HC := Lib.hid hc
  clear hc
  go_enter Tryd.func24, Tryd.ntmps24
  go_wp2_with fail
  refine HC.out.mono ?_
  rintro e w1 ⟨rfl, hb1⟩
  obtain ⟨bs, hbs⟩ : ∃ bs, bs = sumI ms := ⟨_, rfl⟩
  have hbl : bs.length = 32 := by rw [hbs]; exact sumI_length ms
  have hby : IsBytes bs := by rw [hbs]; exact sumI_bytes ms
  rw [← hbs]
  have HB := Lib.hid hbs
  have HBL := Lib.hid hbl
  have HBY := Lib.hid hby
  clear hbs hbl hby HC
  go_wp2_with (refine wpList_store_row rfl 68 (.tmp 3) (.tmp 7) rfl w1.heap.size (ub bs) rfl rfl 68 (ub (zs 32)) (heap_alloc_new w1 _) (size33 HBL.out) (same_ub (by rw [HBL.out]; rfl)) (ub_one _) ?_; rw [World.setRow_alloc_new])
  obtain ⟨w2, hw2⟩ : ∃ w2, w2 = w1.alloc (.cells (ub bs) 68) := ⟨_, rfl⟩
  have h2 : w2.heap[w1.heap.size]? = some (.cells (ub bs) 68 (0, 0)) := by rw [hw2]; exact heap_alloc_new w1 _
  have hb2 : Below w.heap.size w w2 := by rw [hw2]; exact hb1.alloc hb1.size _
  rw [← hw2]
  have H2 := Lib.hid h2
  clear hw2 h2 hb1
  go_loop [4, 8] (fun x i => ∃ k : Nat, k ≤ 8 ∧ i = .int .i64 k ∧ x = .int .u64 (pnt bs k)) (fun _ i => 8 - (intOf i).toNat)
  case atStart => exact ⟨0, by omega, rfl, rfl⟩
  case round =>
    obtain ⟨k, hk, rfl, rfl⟩ := hrel
    by_cases hlt : k < 8
    · have c0 := cell_ub H2.out k (by rw [HBL.out]; omega)
      have hb := HBY.out.get k
      obtain ⟨y, hy⟩ : ∃ y, y = bs.getD k 0 := ⟨_, rfl⟩
      rw [← hy] at c0 hb
      obtain ⟨hy0, hy1⟩ := hb
      have HY := Lib.hid hy
      clear hy
      go_wp2
      go_round
      case rel =>
        refine ⟨k + 1, by omega, by go_num, ?_⟩
        rw [IntKind.wrap_u64, or_byte64 _ y (pnt_lo bs k).1 hy0 hy1, HY.out]
        rfl
      case measure => simp [intOf]; omega
    · obtain rfl : k = 8 := by omega
      go_wp2
      go_ret
      exact ⟨by rw [show pntI ms = pnt bs 8 by rw [HB.out]; rfl]; rfl, hb2⟩
end Go.Proofs.YtomghpielgkigaaDoor
