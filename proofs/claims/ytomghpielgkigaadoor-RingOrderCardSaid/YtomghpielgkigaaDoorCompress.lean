/-
  What sha.Compress hands back, for any eight and any sixteen numbers, where the table K holds its numbers: the state behind the block; no older memory is changed.
-/
import Derived.Test.YtomghpielgkigaaDoorComp
namespace Go.Proofs.YtomghpielgkigaaDoor
open Go.RowKit

set_option maxRecDepth 100000 in
set_option maxHeartbeats 1600000 in
theorem compress_any (h ws : List Int) (hl : h.length = 8) (wl : ws.length = 16) (w : World) (hK : KeysIn w) :
    Calls Tryd.prog 59 #[.agg (ua h), .agg (ua ws)] w fun e w' => e = .returned (.agg (ua (compI h ws))) ∧ Below w.heap.size w w' := by
  have hp := hK.pos
  have HL := Lib.hid hl
  have WL := Lib.hid wl
  have HK := Lib.hid hK
  clear hl wl hK
  obtain ⟨w3, hw3, h0, h1, h2, hs, hb⟩ := three_w w (ua h) (ua ws) (ua (zs 8)) 79 98 79
  have HW3 := Lib.hid hw3
  have h1' := h1
  rw [hw3] at h1'
  have H1' := Lib.hid h1'
  clear hw3 h1 h1'
  have H0 := Lib.hid h0
  have H2 := Lib.hid h2
  have HS3 := Lib.hid hs
  clear h0 h2 hs
  go_enter Tryd.func59, Tryd.ntmps59
  go_wp2_with (refine wpList_load_row rfl 98 (.tmp 3) rfl (w.heap.size + 1) rfl 98 (ua ws) (0, 0) (.array 16 78) H1'.out und23 rfl (size23 WL.out) ?_)
  change Calls Tryd.prog 75 _ (((w.alloc (.cells (ua h) 79)).alloc (.cells (ua ws) 98)).alloc (.cells (ua (zs 8)) 79)) _
  rw [← HW3.out]
  refine (expand_any ws WL.out w3).mono ?_
  rintro e w4 ⟨rfl, hb4⟩
  have k0 := (hb4.block _ (by have := HS3.out; omega)).trans H0.out
  have k2 := (hb4.block _ (by have := HS3.out; omega)).trans H2.out
  have ks : w.heap.size + 2 < w4.heap.size := by have := hb4.size; have := HS3.out; omega
  have hb4' : Below w.heap.size w w4 := hb.trans (hb4.mono (by have := HS3.out; omega))
  have HK4 := Lib.hid (HK.out.below hb4' hp)
  clear hb hb4 H0 H2 H1' HS3 HW3
  have H0 := Lib.hid k0
  have H2 := Lib.hid k2
  clear k0 k2
  obtain ⟨S, hS⟩ : ∃ S, S = sched ws 48 := ⟨_, rfl⟩
  have hSl : S.length = 64 := by rw [hS]; exact sched48 WL.out
  rw [← hS]
  have HSd := Lib.hid hS
  have HSl := Lib.hid hSl
  clear hS hSl
  go_wp2_with (first
    | (refine wpList_store_row rfl 112 (.tmp 5) (.tmp 10) rfl w4.heap.size (ua S) rfl rfl 112 (ua (zs 64)) (heap_alloc_new w4 _) (size25 HSl.out) (same_size HSl.out.symm) (ua_one _) ?_; rw [World.setRow_alloc_new])
    | (refine wpList_load_row rfl 79 (.tmp 2) rfl w.heap.size rfl 79 (ua h) (0, 0) (.array 8 78) ((Below.heap_alloc _ _ _ (by omega)).trans H0.out) und28 rfl (size28 HL.out) ?_)
    | (refine wpList_store_row rfl 114 (.tmp 6) (.tmp 11) rfl (w4.heap.size + 1) (ua h) rfl rfl 114 (ua (zs 8)) (heap_alloc2' w4 _ _) (size8 HL.out) (same_size HL.out.symm) (ua_one _) ?_; rw [setRow_alloc2]))
  obtain ⟨w6, hw6, g0, g1, gs, hb6⟩ := two_w w4 (ua S) (ua h) 112 114
  rw [← hw6]
  obtain ⟨G, hG⟩ : ∃ G, G = w4.heap.size := ⟨_, rfl⟩
  rw [← hG] at g0 g1 gs ks ⊢
  have k0 := (hb6.block _ (by omega)).trans H0.out
  have k2 := (hb6.block _ (by omega)).trans H2.out
  have hb6' : Below w.heap.size w w6 := hb4'.trans (hb6.mono (by omega))
  have HK6 := Lib.hid (HK.out.below hb6' hp)
  clear hb4' hb6 H0 H2 hw6 hG HK4
  have H0 := Lib.hid k0
  have H2 := Lib.hid k2
  have G0 := Lib.hid g0
  have G1 := Lib.hid g1
  have GS := Lib.hid gs
  clear k0 k2 g0 g1 gs
  go_loopw [12] (fun i wr => ∃ k : Nat, k ≤ 64 ∧ i = .int .i64 k ∧ wr.heap[G + 1]? = some (.cells (ua (rounds h S k)) 114 (0, 0)) ∧ Below (G + 1) w6 wr) (fun i _ => 64 - (intOf i).toNat)
  case atStart => exact ⟨0, by omega, rfl, G1.out, Below.refl _ _⟩
  case round =>
    obtain ⟨k, hk, rfl, hw, hbr⟩ := hrel
    have HW := Lib.hid hw
    by_cases hlt : k < 64
    · have hrl := rounds_length h S HL.out k
      obtain ⟨a, b, c, d, e, f, g, i, hs8⟩ := list8 (rounds h S k) hrl
      rw [hs8] at hw
      have HS8 := Lib.hid hs8
      have c0 := cell_ua hw 0 (by simp)
      have c1 := cell_ua hw 1 (by simp)
      have c2 := cell_ua hw 2 (by simp)
      have c3 := cell_ua hw 3 (by simp)
      have c4 := cell_ua hw 4 (by simp)
      have c5 := cell_ua hw 5 (by simp)
      have c6 := cell_ua hw 6 (by simp)
      have c7 := cell_ua hw 7 (by simp)
      have ck : wr.cell? ⟨1, k, none⟩ = some (.int .u32 (kk.getD k 0)) := (hbr.cell (show 1 < G + 1 by omega)).trans (HK6.out k hlt)
      have cw : wr.cell? ⟨G, k, none⟩ = some (.int .u32 (S.getD k 0)) := (hbr.cell (show G < G + 1 by omega)).trans (cell_ua G0.out k (by rw [HSl.out]; exact hlt))
      have hsz : G + 1 < wr.heap.size := by have := hbr.size; have := GS.out; omega
      clear hs8 hw hrl
      go_wp2
      go_still_tail 8, (by kernel_rfl)
      change wpList _ _ _ _ _ wr.drew
      go_wp2_with fail
      rw [IntKind.wrap_u32']
      refine (step_any [a, b, c, d, e, f, g, i] rfl ((kk.getD k 0 + S.getD k 0) % 4294967296) wr.drew).mono ?_
      rintro e w7 ⟨rfl, hb7⟩
      rw [← HS8.out]
      have hst : stepI (rounds h S k) ((kk.getD k 0 + S.getD k 0) % 4294967296) = rounds h S (k + 1) := rfl
      rw [hst]
      have hw7 : w7.heap[G + 1]? = some (.cells (ua (rounds h S k)) 114 (0, 0)) := (hb7.block (G + 1) hsz).trans HW.out
      have hb7' : Below (G + 1) w6 w7 := hbr.trans ((Below.refl (G + 1) wr).drew.trans (hb7.mono (by simp; omega)))
      have HW7 := Lib.hid hw7
      have L1 := Lib.hid (rounds_length h S HL.out (k + 1))
      have L2 := Lib.hid (rounds_length h S HL.out k)
      clear hst hw7 hb7 c0 c1 c2 c3 c4 c5 c6 c7 ck cw hbr
      go_wp2_with (refine wpList_store_row rfl 114 (.tmp 6) (.tmp 23) rfl (G + 1) (ua (rounds h S (k + 1))) rfl rfl 114 (ua (rounds h S k)) HW7.out (size8 L1.out) (same_size (L2.out.trans L1.out.symm)) (ua_one _) ?_)
      go_roundw
      case rel => exact ⟨k + 1, by omega, by go_num, setRow_heap _ _ _ _ _ _ HW7.out, below_setRow hb7' (Nat.le_refl _) _⟩
      case measure => simp [intOf]; omega
    · have hk64 : k = 64 := by omega
      rw [hk64] at hw
      clear hk64
      obtain ⟨R, hR⟩ : ∃ R, R = rounds h S 64 := ⟨_, rfl⟩
      rw [← hR] at hw
      have hRl : R.length = 8 := by rw [hR]; exact rounds_length h S HL.out 64
      have hend : addTo h R 8 = compI h ws := by rw [hR, HSd.out]; rfl
      have k0 := (hbr.block _ (by omega)).trans H0.out
      have k2 := (hbr.block _ (by omega)).trans H2.out
      have hb8 : Below w.heap.size w wr := hb6'.trans (hbr.mono (by omega))
      have HR := Lib.hid hRl
      have HE := Lib.hid hend
      have K0 := Lib.hid k0
      have K1 := Lib.hid hw
      have K2 := Lib.hid k2
      clear hR hRl hend k0 hw k2 HW hbr hb6' H0 H2
      go_wp2
      obtain ⟨w8, hw8⟩ : ∃ w8 : World, w8 = wr := ⟨_, rfl⟩
      rw [← hw8] at K0 K1 K2 hb8 ⊢
      have k0' : w8.heap[w.heap.size]? = some (.cells (ua (addTo h R 0)) 79 (0, 0)) := by rw [addTo_zero h R HL.out]; exact K0.out
      have K0' := Lib.hid k0'
      clear hw8 k0'
      go_loopw [25] (fun i wq => ∃ k : Nat, k ≤ 8 ∧ i = .int .i64 k ∧ wq.heap[w.heap.size]? = some (.cells (ua (addTo h R k)) 79 (0, 0)) ∧ wq.heap[G + 1]? = some (.cells (ua R) 114 (0, 0)) ∧
          wq.heap[w.heap.size + 1 + 1]? = some (.cells (ua (zs 8)) 79 (0, 0)) ∧ Below w.heap.size w wq) (fun i _ => 8 - (intOf i).toNat)
      case atStart => exact ⟨0, by omega, rfl, K0'.out, K1.out, K2.out, hb8⟩
      case round =>
        obtain ⟨j, hj, rfl, q0, q1, q2, hbq⟩ := hrel
        by_cases hlt : j < 8
        · have c0 := cell_ua q0 j (by rw [addTo_length]; exact hlt)
          rw [addTo_get h R j hlt] at c0
          have c1 := cell_ua q1 j (by rw [HR.out]; exact hlt)
          have f0 := frozen_of_row _ _ j _ _ q0
          have Q0 := Lib.hid q0
          have Q1 := Lib.hid q1
          have Q2 := Lib.hid q2
          clear q0 q1 q2
          go_wp2
          go_still_tail 8, (by kernel_rfl)
          change wpList _ _ _ _ _ wr.drew
          rw [IntKind.wrap_u32']
          go_wp2
          go_roundw
          case rel =>
            refine ⟨j + 1, by omega, by go_num, ?_, ?_, ?_, ?_⟩
            · have h1 := set_ua (w := wr) (i := j) (v := (h.getD j 0 + R.getD j 0) % 4294967296) Q0.out
              rw [addTo_set] at h1
              exact h1
            · exact other1 (w := wr) (by omega) Q1.out
            · exact other1 (w := wr) (by omega) Q2.out
            · exact (Below.setCell (p := ⟨w.heap.size, j, none⟩) hbq (Nat.le_refl _) _).drew
          case measure => simp [intOf]; omega
        · obtain rfl : j = 8 := by omega
          rw [HE.out] at q0
          have E1 := Lib.hid (compI_length h ws)
          have Q0 := Lib.hid q0
          have Q2 := Lib.hid q2
          clear q0 q1 q2
          go_wp2_with (first
            | (refine wpList_load_row rfl 79 (.tmp 2) rfl w.heap.size rfl 79 (ua (compI h ws)) (0, 0) (.array 8 78) Q0.out und28 rfl (size28 E1.out) ?_)
            | (refine wpList_store_row rfl 79 (.tmp 4) (.tmp 37) rfl (w.heap.size + 1 + 1) (ua (compI h ws)) rfl rfl 79 (ua (zs 8)) Q2.out (size28 E1.out) (same_size (E1.out.symm)) (ua_one _) ?_))
          refine bodyPost_ret (v := .agg (ua (compI h ws))) (results_cell_row rfl _ _ (w.heap.size + 1 + 1) 79 (ua (compI h ws)) (0, 0) (.array 8 78) rfl (setRow_heap wr _ _ _ _ _ Q2.out) und28 rfl (size28 E1.out)) rfl ⟨rfl, ?_⟩
          exact below_setRow hbq (by omega) _
end Go.Proofs.YtomghpielgkigaaDoor
