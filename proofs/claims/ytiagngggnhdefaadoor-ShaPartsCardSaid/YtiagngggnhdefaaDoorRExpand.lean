/-
  What the document's Expand hands back, for any row of sixteen numbers: the schedule 'sched', and no older memory is changed.
-/
import Derived.Test.YtiagngggnhdefaaDoorKit
namespace Go.Proofs.YtiagngggnhdefaaDoor
open Go.RowKit

def rl (xs : List Int) (k : Nat) : List Int := if k ≤ 16 then xs.take k else sched xs (k - 16)
theorem rl_lo (xs : List Int) (k : Nat) (hl : xs.length = 16) (hk : k < 16) : (rl xs k ++ zs (64 - k)).set k (xs.getD k 0) = rl xs (k + 1) ++ zs (64 - (k + 1)) := by
  have e : 64 - k = (64 - (k + 1)) + 1 := by omega
  have h1 : (xs.take k).length = k := by simp; omega
  have h2 := set_zs (xs.take k) (64 - (k + 1)) (xs.getD k 0)
  rw [h1] at h2
  rw [rl, rl, if_pos (by omega), if_pos (by omega), e, h2, List.take_succ_eq_append_getElem (by omega)]
  simp [hl, hk]
theorem rl_hi (xs : List Int) (j : Nat) (hl : xs.length = 16) : rl xs (j + 16) = sched xs j := by
  unfold rl
  split
  · obtain rfl : j = 0 := by omega
    simp [sched, List.take_of_length_le (Nat.le_of_eq hl)]
  · simp

set_option maxHeartbeats 800000 in
theorem rexpand_any (xs : List Int) (hl : xs.length = 16) (w : World) :
    Calls Tryd.prog 11 #[.agg (ua xs)] w fun e w' => e = .returned (.agg (ua (sched xs 48))) ∧ Below w.heap.size w w' := by
  have HX := Lib.hid hl
  clear hl
  go_enter Tryd.func11, Tryd.ntmps11
  go_wp2
  obtain ⟨w3, hw3, h0, h1, h2, hs, hb⟩ := three_w w (ua xs) (ua (zs 64)) (ua (zs 64)) 23 25 25
  change Code.wp _ _ _ _ (((w.alloc (.cells (ua xs) 23)).alloc (.cells (ua (zs 64)) 25)).alloc (.cells (ua (zs 64)) 25))
  rw [← hw3]
  clear hw3
  have h2' : w3.heap[w.heap.size + 1 + 1]? = some (.cells (ua (rl xs 0 ++ zs 64)) 25 (0, 0)) := h2
  have H0 := Lib.hid h0
  have H1 := Lib.hid h1
  have H2 := Lib.hid h2'
  clear h0 h1 h2 hs h2'
  go_loopw [4] (fun i wr => ∃ k : Nat, k ≤ 64 ∧ i = .int .i64 k ∧ wr.heap[w.heap.size + 1 + 1]? = some (.cells (ua (rl xs k ++ zs (64 - k))) 25 (0, 0)) ∧ Below (w.heap.size + 1 + 1) w3 wr)
    (fun i _ => 64 - (intOf i).toNat)
  case atStart => exact ⟨0, by omega, rfl, H2.out, Below.refl _ _⟩
  case round =>
    obtain ⟨k, hk, rfl, hw, hbr⟩ := hrel
    have HW := Lib.hid hw
    clear hw
    by_cases hlt : k < 16
    · have cx : wr.cell? ⟨w.heap.size, k, none⟩ = some (.int .u32 (xs.getD k 0)) := (hbr.cell (by simp; omega)).trans (cell_ua H0.out k (by rw [HX.out]; exact hlt))
      have c0 := cell_ua HW.out k (by have := HX.out; simp [rl, zs]; split <;> simp [sched_length] <;> omega)
      have f0 := frozen_of_row wr _ k _ _ HW.out
      go_wp2
      go_roundw
      case rel =>
        refine ⟨k + 1, by omega, by go_num, ?_, hbr.setCell (Nat.le_refl _) _⟩
        refine (set_ua HW.out).trans ?_
        have := rl_lo xs k HX.out hlt
        rw [← this]
        rfl
      case measure => simp [intOf]; omega
    · by_cases hlt2 : k < 64
      · obtain ⟨j, rfl⟩ : ∃ j, k = j + 16 := ⟨k - 16, by omega⟩
        have hj : j < 48 := by omega
        obtain ⟨L, hL⟩ : ∃ L, L = sched xs j ++ zs (48 - j) := ⟨_, rfl⟩
        have hw : wr.heap[w.heap.size + 1 + 1]? = some (.cells (ua L) 25 (0, 0)) := by
          have := HW.out
          rw [rl_hi xs j HX.out, show 64 - (j + 16) = 48 - j by omega, ← hL] at this
          exact this
        have hLl : L.length = 64 := by rw [hL]; simp [sched_length, HX.out, zs]; omega
        have c2 := cell_ua hw (j + 14) (by omega)
        have c7 := cell_ua hw (j + 9) (by omega)
        have c15 := cell_ua hw (j + 1) (by omega)
        have c16 := cell_ua hw j (by omega)
        have c0 := cell_ua hw (j + 16) (by omega)
        have f0 := frozen_of_row wr _ (j + 16) _ _ hw
        have HL := Lib.hid hL
        have HWL := Lib.hid hw
        clear hL hw hLl hk hlt HW
        go_wp2_with (go_at_call 22; refine (rrot_any _ _ _ (by omega) (by omega)).mono ?_; rintro e w' ⟨rfl, rfl⟩)
        have e7 : IntKind.i64.wrap ((j : Int) + 16 - 7) = (j : Int) + 9 := by rw [IntWalk.i64_in _ (by omega)]; omega
        have e16 : IntKind.i64.wrap (j : Int) = (j : Int) := by rw [IntWalk.i64_in _ (by omega)]
        have p7 : (0 : Int) ≤ (j : Int) + 9 := by omega
        have p0 : (0 : Int) ≤ (j : Int) + 16 := by omega
        have q7 : (j : Int) + 9 < 64 := by omega
        have q16 : (j : Int) < 64 := by omega
        have q0 : (j : Int) + 16 < 64 := by omega
        have t7 : ((j : Int) + 9).toNat = j + 9 := by omega
        have t0 : ((j : Int) + 16).toNat = j + 16 := by omega
        go_region_held3 (fun w' => w'.cell? ⟨w.heap.size + 1 + 1, j + 9, none⟩ = some (.int .u32 (L.getD (j + 9) 0)) ∧ w'.cell? ⟨w.heap.size + 1 + 1, j, none⟩ = some (.int .u32 (L.getD j 0)))
          (first | (exact ⟨keep_other (by omega) c7, keep_other (by omega) c16⟩) | (exact ⟨c7, c16⟩))
          (fail)
        clear e7 e16 t7 t0
        go_wp2
        go_roundw
        case rel =>
          refine ⟨j + 16 + 1, by omega, by go_num, ?_, (below_drewN hbr _).setCell (Nat.le_refl _) _⟩
          refine (set_ua (w := wr.drewN _) HWL.out).trans ?_
          have h2 := step_sched xs HX.out j hj L HL.out
          rw [show j + 16 + 1 = (j + 1) + 16 by omega, rl_hi xs (j + 1) HX.out, show 64 - (j + 1 + 16) = 48 - (j + 1) by omega, ← h2]
          rfl
        case measure => simp [intOf]; omega
      · obtain rfl : k = 64 := by omega
        have hw : wr.heap[w.heap.size + 1 + 1]? = some (.cells (ua (sched xs 48)) 25 (0, 0)) := by
          have := HW.out
          rw [show (64 : Nat) = 48 + 16 from rfl, rl_hi xs 48 HX.out] at this
          simpa [zs] using this
        have hlen : (Tryd.prog.info? 25).map (·.size) = some (ua (sched xs 48)).size := by rw [info25]; simp [ua, ui, sched_length, HX.out]
        have HS := Lib.hid hlen
        have HW' := Lib.hid hw
        have I1 : wr.heap[w.heap.size + 1]? = some (.cells (ua (zs 64)) 25 (0, 0)) := (hbr.block _ (by omega)).trans H1.out
        have HI := Lib.hid I1
        clear I1 hw hlen HW
        go_wp2_with (first
          | (refine wpList_load_row rfl 25 (.tmp 3) rfl (w.heap.size + 1 + 1) rfl 25 (ua (sched xs 48)) (0, 0) (.array 64 22) HW'.out und25a rfl HS.out ?_)
          | (refine wpList_store_row rfl 25 (.tmp 2) (.tmp 59) rfl (w.heap.size + 1) (ua (sched xs 48)) rfl rfl 25 (ua (zs 64)) HI.out HS.out (by simp [ua, ui, sched_length, HX.out, zs]) (ua_one _) ?_))
        refine bodyPost_ret (v := .agg (ua (sched xs 48))) (results_cell_row rfl _ _ (w.heap.size + 1) 25 (ua (sched xs 48)) (0, 0) (.array 64 22) rfl (setRow_heap wr _ _ _ _ _ HI.out) und25a rfl HS.out) rfl ⟨rfl, ?_⟩
        exact below_setRow (hb.trans (hbr.mono (by omega))) (by omega) _
end Go.Proofs.YtiagngggnhdefaaDoor
