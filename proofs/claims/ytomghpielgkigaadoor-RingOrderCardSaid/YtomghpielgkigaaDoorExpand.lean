/-
  What sha.Expand hands back, for any row of sixteen numbers: the schedule 'sched', and no older memory is changed.
-/
import Derived.Test.YtomghpielgkigaaDoorKit
namespace Go.Proofs.YtomghpielgkigaaDoor
open Go.RowKit
set_option maxRecDepth 100000 in
set_option maxHeartbeats 400000 in
theorem expand_any (xs : List Int) (hl : xs.length = 16) (w : World) :
    Calls Tryd.prog 75 #[.agg (ua xs)] w fun e w' => e = .returned (.agg (ua (sched xs 48))) ∧ Below w.heap.size w w' := by
  go_enter Tryd.func75, Tryd.ntmps75
  go_wp2
  change Code.wp _ _ _ _ (((w.alloc (.cells (ua xs) 98)).alloc (.cells (ua (zs 64)) 112)).alloc (.cells (ua (zs 64)) 112))
  obtain ⟨w3, hw3, h0, h1, h2, hs, hb⟩ := three_w w (ua xs) (ua (zs 64)) (ua (zs 64)) 98 112 112
  rw [← hw3]
  clear hw3
  have H0 := Lib.hid h0
  have H1 := Lib.hid h1
  have H2 := Lib.hid h2
  have HS := Lib.hid hs
  clear h0 h1 h2 hs
  go_still_tail 2, (by kernel_rfl)
  change wpList _ _ _ _ _ w3.drew
  refine wpList_copy_splice rfl (.tmp 6) (.tmp 7) 121 121 rfl 78 und25 size22 _ _ _ _ _ _ rfl rfl (w.heap.size + 1 + 1) 0 (ui (zs 64)) 112 H2.out (ui xs) (by simp [ui, hl]) (fun _ => ⟨rfl, _, rfl, ?_⟩) (by simp [ui, hl, zs]) ui_one (w.heap.size + 1 + 1) w3 (Below.refl _ _).drew (Nat.le_refl _) ?_
  · intro j v hv
    rw [show (⟨w.heap.size, 0, none⟩ : Addr).add j = ⟨w.heap.size, j, none⟩ by unfold Addr.add; split <;> simp_all]
    rw [World.cell?_drew]
    rw [cell_of_row _ _ j _ _ _ H0.out]; simpa [ua] using hv
  intro w4 h4 hb4
  rw [splice_ui xs (zs 64)] at h4
  have h4' : w4.heap[w.heap.size + 1 + 1]? = some (.cells (ua (sched xs 0 ++ zs 48)) 112 (0, 0)) := by
    have := h4.out
    rw [hl] at this
    exact this
  have H4 := Lib.hid h4'
  clear h4 h4'
  go_wp2
  go_loopw [9] (fun i wr => ∃ k : Nat, k ≤ 48 ∧ i = .int .i64 k ∧ wr.heap[w.heap.size + 1 + 1]? = some (.cells (ua (sched xs k ++ zs (48 - k))) 112 (0, 0)) ∧ Below (w.heap.size + 1 + 1) w3 wr)
    (fun i _ => 48 - (intOf i).toNat)
  case atStart => exact ⟨0, by omega, rfl, H4.out, hb4⟩
  case round =>
    obtain ⟨k, hk, rfl, hw, hbr⟩ := hrel
    have HW := Lib.hid hw
    clear hw
    by_cases hlt : k < 48
    · have hlen : (sched xs k ++ zs (48 - k)).length = 64 := by simp [sched_length, hl, zs]; omega
      obtain ⟨L, hL⟩ : ∃ L, L = sched xs k ++ zs (48 - k) := ⟨_, rfl⟩
      have c2 := cell_ua HW.out (k + 14) (by omega)
      have c7 := cell_ua HW.out (k + 9) (by omega)
      have c15 := cell_ua HW.out (k + 1) (by omega)
      have c16 := cell_ua HW.out k (by omega)
      have c0 := cell_ua HW.out (k + 16) (by omega)
      have f0 := frozen_of_row wr _ (k + 16) _ _ HW.out
      rw [← hL] at c2 c7 c15 c16 c0
      clear hlen
      have HL := Lib.hid hL
      clear hL
      go_wp2
      have e2 : IntKind.i64.wrap ((k : Int) + 16 - 2) = (k : Int) + 14 := by rw [IntWalk.i64_in _ (by omega)]; omega
      have e7 : IntKind.i64.wrap ((k : Int) + 16 - 7) = (k : Int) + 9 := by rw [IntWalk.i64_in _ (by omega)]; omega
      have e15 : IntKind.i64.wrap ((k : Int) + 16 - 15) = (k : Int) + 1 := by rw [IntWalk.i64_in _ (by omega)]; omega
      have e16 : IntKind.i64.wrap (k : Int) = (k : Int) := by rw [IntWalk.i64_in _ (by omega)]
      have p2 : (0 : Int) ≤ (k : Int) + 14 := by omega
      have p7 : (0 : Int) ≤ (k : Int) + 9 := by omega
      have p15 : (0 : Int) ≤ (k : Int) + 1 := by omega
      have p0 : (0 : Int) ≤ (k : Int) + 16 := by omega
      have q2 : (k : Int) + 14 < 64 := by omega
      have q7 : (k : Int) + 9 < 64 := by omega
      have q15 : (k : Int) + 1 < 64 := by omega
      have q16 : (k : Int) < 64 := by omega
      have q0 : (k : Int) + 16 < 64 := by omega
      have t2 : ((k : Int) + 14).toNat = k + 14 := by omega
      have t7 : ((k : Int) + 9).toNat = k + 9 := by omega
      have t15 : ((k : Int) + 1).toNat = k + 1 := by omega
      have t0 : ((k : Int) + 16).toNat = k + 16 := by omega
      go_region_held3 (fun w' => w'.cell? ⟨w.heap.size + 1 + 1, k + 14, none⟩ = some (.int .u32 (L.getD (k + 14) 0)) ∧ w'.cell? ⟨w.heap.size + 1 + 1, k + 9, none⟩ = some (.int .u32 (L.getD (k + 9) 0)) ∧
          w'.cell? ⟨w.heap.size + 1 + 1, k + 1, none⟩ = some (.int .u32 (L.getD (k + 1) 0)) ∧ w'.cell? ⟨w.heap.size + 1 + 1, k, none⟩ = some (.int .u32 (L.getD k 0)))
        (first | (exact ⟨keep_other (by omega) c2, keep_other (by omega) c7, keep_other (by omega) c15, keep_other (by omega) c16⟩) | (exact ⟨c2, c7, c15, c16⟩))
        (first | (go_at_call 81; refine (small1_any _ _).mono ?_; rintro e w' ⟨rfl, k1, rfl⟩) | (go_at_call 82; refine (small0_any _ _).mono ?_; rintro e w' ⟨rfl, k2, rfl⟩))
      go_wp2
      go_roundw
      case rel =>
        refine ⟨k + 1, by omega, by go_num, ?_, ?_⟩
        · refine (set_ua (w := wr.drewN _) (L := sched xs k ++ zs (48 - k)) HW.out).trans ?_
          rw [← HL.out, step_sched xs hl k hlt L HL.out]
        · exact (below_drewN hbr _).setCell (Nat.le_refl _) _
      case measure => simp [intOf]; omega
    · obtain rfl : k = 48 := by omega
      have I1 : wr.heap[w.heap.size + 1]? = some (.cells (ua (zs 64)) 112 (0, 0)) := (hbr.block _ (by omega)).trans H1.out
      have HI := Lib.hid I1
      clear I1
      go_wp2_with (first
        | (refine wpList_load_row rfl 112 (.tmp 3) rfl (w.heap.size + 1 + 1) rfl 112 (ua (sched xs 48)) (0, 0) (.array 64 78) (by simpa [zs] using HW.out) und25a rfl (by rw [info25]; simp [ua, ui, sched_length, hl]) ?_)
        | (refine wpList_store_row rfl 112 (.tmp 2) (.tmp 38) rfl (w.heap.size + 1) (ua (sched xs 48)) rfl rfl 112 (ua (zs 64)) HI.out (by rw [info25]; simp [ua, ui, sched_length, hl]) (by simp [ua, ui, sched_length, hl, zs]) (ua_one _) ?_))
      refine bodyPost_ret (v := .agg (ua (sched xs 48))) (results_cell_row rfl _ _ (w.heap.size + 1) 112 (ua (sched xs 48)) (0, 0) (.array 64 78) rfl (setRow_heap wr _ _ _ _ _ HI.out) und25a rfl (by rw [info25]; simp [ua, ui, sched_length, hl])) rfl ⟨rfl, ?_⟩
      exact below_setRow (hb.trans (hbr.mono (by omega))) (by omega) _
end Go.Proofs.YtomghpielgkigaaDoor
