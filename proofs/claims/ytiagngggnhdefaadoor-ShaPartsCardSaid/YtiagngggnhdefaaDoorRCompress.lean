/-
  What the document's Compress hands back, for any eight and any sixteen numbers: the same state behind the block; no older memory is changed.
-/
import Derived.Test.YtiagngggnhdefaaDoorRComp
namespace Go.Proofs.YtiagngggnhdefaaDoor
open Go.RowKit

theorem rrot_q (x n : Int) (w : World) (hn : 0 ≤ n) (hn2 : n ≤ 32) : Calls Tryd.prog 22 #[.int .u32 x, .int .u64 n] w fun e w' => e = .returned (.int .u32 (rt x n)) ∧ w' = w :=
  (rrot_any x n w hn hn2).mono fun _ _ h => ⟨h.1, h.2.symm⟩

theorem round_eq (a b c d e f g i x y T1 T2 : Int)
    (h1 : (i + bits BinOp.xor IntKind.u32 (bits BinOp.xor IntKind.u32 (rt e 6) (rt e 11)) (rt e 25) + bits BinOp.xor IntKind.u32 (bits BinOp.and IntKind.u32 e f) (bits BinOp.and IntKind.u32 (bits BinOp.xor IntKind.u32 IntKind.u32.max e) g) + x + y) % 4294967296 = T1)
    (h2 : (bits BinOp.xor IntKind.u32 (bits BinOp.xor IntKind.u32 (rt a 2) (rt a 13)) (rt a 22) + bits BinOp.xor IntKind.u32 (bits BinOp.xor IntKind.u32 (bits BinOp.and IntKind.u32 a b) (bits BinOp.and IntKind.u32 a c)) (bits BinOp.and IntKind.u32 b c)) % 4294967296 = T2) :
    [(T1 + T2) % 4294967296, a, b, c, (d + T1) % 4294967296, e, f, g] = stepI [a, b, c, d, e, f, g, i] ((x + y) % 4294967296) := by
  have e1 : firstI [a, b, c, d, e, f, g, i] ((x + y) % 4294967296) = T1 := by
    rw [← h1]
    show ((((0 + i) % 4294967296 + mLow e) % 4294967296 + mChoice e f g) % 4294967296 + (x + y) % 4294967296) % 4294967296 = (i + mLow e + mChoice e f g + x + y) % 4294967296
    omega
  have e2 : secondI [a, b, c, d, e, f, g, i] = T2 := by
    rw [← h2]
    show ((0 + mHigh a) % 4294967296 + mMaj a b c) % 4294967296 = (mHigh a + mMaj a b c) % 4294967296
    omega
  simp only [stepI, e1, e2]
  rfl

set_option maxRecDepth 100000 in
set_option maxHeartbeats 3200000 in
theorem rcompress_any (h0 ws : List Int) (hl : h0.length = 8) (wl : ws.length = 16) (w : World) :
    Calls Tryd.prog 13 #[.agg (ua h0), .agg (ua ws)] w fun e w' => e = .returned (.agg (ua (compI h0 ws))) ∧ Below w.heap.size w w' := by
  have HL := Lib.hid hl
  have WL := Lib.hid wl
  clear hl wl
  obtain ⟨w3, hw3, r0, h1, h2, hs, hb⟩ := three_w w (ua h0) (ua ws) (ua (zs 8)) 28 23 28
  have HW3 := Lib.hid hw3
  have h1' := h1
  rw [hw3] at h1'
  have H1' := Lib.hid h1'
  clear hw3 h1 h1'
  have H0 := Lib.hid r0
  have H2 := Lib.hid h2
  have HS3 := Lib.hid hs
  clear r0 h2 hs
  go_enter Tryd.func13, Tryd.ntmps13
  go_wp2_with (refine wpList_load_row rfl 23 (.tmp 3) rfl (w.heap.size + 1) rfl 23 (ua ws) (0, 0) (.array 16 22) H1'.out und23 rfl (size23 WL.out) ?_)
  change Calls Tryd.prog 11 _ (((w.alloc (.cells (ua h0) 28)).alloc (.cells (ua ws) 23)).alloc (.cells (ua (zs 8)) 28)) _
  rw [← HW3.out]
  refine (rexpand_any ws WL.out w3).mono ?_
  rintro e w4 ⟨rfl, hb4⟩
  have k0 := (hb4.block _ (by have := HS3.out; omega)).trans H0.out
  have k2 := (hb4.block _ (by have := HS3.out; omega)).trans H2.out
  have ks : w.heap.size + 2 < w4.heap.size := by have := hb4.size; have := HS3.out; omega
  have hb4' : Below w.heap.size w w4 := hb.trans (hb4.mono (by have := HS3.out; omega))
  clear hb hb4 H0 H2 H1' HS3 HW3
  have H0 := Lib.hid k0
  have H2 := Lib.hid k2
  clear k0 k2
  obtain ⟨S, hS⟩ : ∃ S, S = sched ws 48 := ⟨_, rfl⟩
  have hSl : S.length = 64 := by rw [hS]; exact sched48 WL.out
  rw [← hS]
  have HSd := Lib.hid hS
  have HSl := Lib.hid hSl
  clear hS hSl
  go_wp2_with (refine wpList_store_row rfl 25 (.tmp 5) (.tmp 15) rfl w4.heap.size (ua S) rfl rfl 25 (ua (zs 64)) (heap_alloc_new w4 _) (size25 HSl.out) (same_size HSl.out.symm) (ua_one _) ?_; rw [World.setRow_alloc_new])
  refine (constants_any (w4.alloc (.cells (ua S) 25))).mono ?_
  rintro e w5 ⟨rfl, hb5⟩
  obtain ⟨G, hG⟩ : ∃ G, G = w4.heap.size := ⟨_, rfl⟩
  have k0 := ((hb5.block _ (by simp; omega)).trans (Below.heap_alloc w4 _ _ (by omega))).trans H0.out
  have k2 := ((hb5.block _ (by simp; omega)).trans (Below.heap_alloc w4 _ _ (by omega))).trans H2.out
  have k3 := (hb5.block w4.heap.size (by simp)).trans (heap_alloc_new w4 _)
  have hs5 : G + 1 ≤ w5.heap.size := by have := hb5.size; simp at this; omega
  have hb5' : Below w.heap.size w w5 := (hb4'.alloc (by omega) _).trans (hb5.mono (by simp; omega))
  rw [← hG] at k3 ks ⊢
  clear hb5 hb4' H0 H2 hG
  have H0 := Lib.hid k0
  have H2 := Lib.hid k2
  have H3 := Lib.hid k3
  clear k0 k2 k3
  go_wp2_with (first
    | (refine wpList_store_row rfl 25 (.tmp 6) (.tmp 16) rfl w5.heap.size (ua kk) rfl rfl 25 (ua (zs 64)) (heap_alloc_new w5 _) (size25 rfl) rfl (ua_one _) ?_; rw [World.setRow_alloc_new])
    | (refine wpList_load_row rfl 28 (.tmp 2) rfl w.heap.size rfl 28 (ua h0) (0, 0) (.array 8 22) ((Below.heap_alloc _ _ _ (by omega)).trans H0.out) und28 rfl (size28 HL.out) ?_)
    | (refine wpList_store_row rfl 28 (.tmp 7) (.tmp 17) rfl (w5.heap.size + 1) (ua h0) rfl rfl 28 (ua (zs 8)) (heap_alloc2' w5 _ _) (size28 HL.out) (same_size HL.out.symm) (ua_one _) ?_; rw [setRow_alloc2]))
  obtain ⟨w6, hw6, g0, g1, gs, hb6⟩ := two_w w5 (ua kk) (ua h0) 25 28
  rw [← hw6]
  obtain ⟨F, hF⟩ : ∃ F, F = w5.heap.size := ⟨_, rfl⟩
  rw [← hF] at g0 g1 gs hs5 ⊢
  have k0 := (hb6.block _ (by omega)).trans H0.out
  have k2 := (hb6.block _ (by omega)).trans H2.out
  have k3 := (hb6.block _ (by omega)).trans H3.out
  have hb6' : Below w.heap.size w w6 := hb5'.trans (hb6.mono (by omega))
  clear hb5' hb6 H0 H2 H3 hw6 hF
  have H0 := Lib.hid k0
  have H2 := Lib.hid k2
  have H3 := Lib.hid k3
  have G0 := Lib.hid g0
  have G1 := Lib.hid g1
  have GS := Lib.hid gs
  clear k0 k2 k3 g0 g1 gs
  go_loopw [8] (fun i wr => ∃ k : Nat, k ≤ 64 ∧ i = .int .i64 k ∧ wr.heap[F + 1]? = some (.cells (ua (rounds h0 S k)) 28 (0, 0)) ∧ Below (F + 1) w6 wr) (fun i _ => 64 - (intOf i).toNat)
  case atStart => exact ⟨0, by omega, rfl, G1.out, Below.refl _ _⟩
  case round =>
    obtain ⟨k, hk, rfl, hw, hbr⟩ := hrel
    have HW := Lib.hid hw
    by_cases hlt : k < 64
    · have hrl := rounds_length h0 S HL.out k
      obtain ⟨a, b, c, d, e, f, g, i, hs8⟩ := list8 (rounds h0 S k) hrl
      rw [hs8] at hw
      have HS8 := Lib.hid hs8
      have HW8 := Lib.hid hw
      have c0 := cell_ua hw 0 (by simp)
      have c1 := cell_ua hw 1 (by simp)
      have c2 := cell_ua hw 2 (by simp)
      have c3 := cell_ua hw 3 (by simp)
      have c4 := cell_ua hw 4 (by simp)
      have c5 := cell_ua hw 5 (by simp)
      have c6 := cell_ua hw 6 (by simp)
      have c7 := cell_ua hw 7 (by simp)
      have ck : wr.cell? ⟨F, k, none⟩ = some (.int .u32 (kk.getD k 0)) := (hbr.cell (show F < F + 1 by omega)).trans (cell_ua G0.out k hlt)
      have cw : wr.cell? ⟨G, k, none⟩ = some (.int .u32 (S.getD k 0)) := (hbr.cell (show G < F + 1 by omega)).trans (cell_ua H3.out k (by rw [HSl.out]; exact hlt))
      have hbr' : Below (F + 1) w6 wr := hbr
      clear hs8 hw hrl hbr
      go_wp2
      go_quiet ((go_at_call 22; exact Calls.quiet_of_same (rrot_q _ _ _ (by omega) (by omega))))
      go_wp2
      obtain ⟨wq, hq⟩ : ∃ wq, wq = wr.drewN nq := ⟨_, rfl⟩
      rw [← hq]
      have d1 : wq.cell? ⟨F + 1, 1, none⟩ = some (.int .u32 b) := by rw [hq]; exact c1
      have d2 : wq.cell? ⟨F + 1, 2, none⟩ = some (.int .u32 c) := by rw [hq]; exact c2
      have d3 : wq.cell? ⟨F + 1, 3, none⟩ = some (.int .u32 d) := by rw [hq]; exact c3
      have d5 : wq.cell? ⟨F + 1, 5, none⟩ = some (.int .u32 f) := by rw [hq]; exact c5
      have d6 : wq.cell? ⟨F + 1, 6, none⟩ = some (.int .u32 g) := by rw [hq]; exact c6
      have hwq : wq.heap[F + 1]? = some (.cells (ua [a, b, c, d, e, f, g, i]) 28 (0, 0)) := by rw [hq]; exact HW8.out
      have hbq : Below (F + 1) w6 wq := by rw [hq]; exact below_drewN hbr' _
      have HWq := Lib.hid hwq
      clear hq hwq c0 c1 c2 c3 c4 c5 c6 c7 ck cw hbr'
      go_quiet ((go_at_call 22; exact Calls.quiet_of_same (rrot_q _ _ _ (by omega) (by omega))))
      generalize hT1 : (i + bits BinOp.xor IntKind.u32 (bits BinOp.xor IntKind.u32 (rt e 6) (rt e 11)) (rt e 25) + bits BinOp.xor IntKind.u32 (bits BinOp.and IntKind.u32 e f) (bits BinOp.and IntKind.u32 (bits BinOp.xor IntKind.u32 IntKind.u32.max e) g) + kk[k]?.getD 0 + S[k]?.getD 0) % 4294967296 = T1
      generalize hT2 : (bits BinOp.xor IntKind.u32 (bits BinOp.xor IntKind.u32 (rt a 2) (rt a 13)) (rt a 22) + bits BinOp.xor IntKind.u32 (bits BinOp.xor IntKind.u32 (bits BinOp.and IntKind.u32 a b) (bits BinOp.and IntKind.u32 a c)) (bits BinOp.and IntKind.u32 b c)) % 4294967296 = T2
      have HT1 := Lib.hid hT1
      have HT2 := Lib.hid hT2
      clear hT1 hT2
      obtain ⟨N, hN⟩ : ∃ N, N = [(T1 + T2) % 4294967296, a, b, c, (d + T1) % 4294967296, e, f, g] := ⟨_, rfl⟩
      have hNl : N.length = 8 := by rw [hN]; rfl
      have HN := Lib.hid hN
      have HNl := Lib.hid hNl
      clear hN hNl
      go_wp2_with (refine wpList_store_row rfl 28 (.tmp 7) (.tmp 97) rfl (F + 1) (ua N) rfl (by rw [HN.out]; rfl) 28 (ua [a, b, c, d, e, f, g, i]) HWq.out (size28 HNl.out) (same_size HNl.out.symm) (ua_one _) ?_)
      have hN' : N = rounds h0 S (k + 1) := by
        rw [HN.out, round_eq a b c d e f g i _ _ T1 T2 HT1.out HT2.out]
        show _ = stepI (rounds h0 S k) _
        rw [HS8.out]
        rfl
      go_roundw
      case rel => exact ⟨k + 1, by omega, by go_num, by rw [← hN']; exact setRow_heap (wq.drewN _) _ _ _ _ _ HWq.out, below_setRow (below_drewN hbq _) (Nat.le_refl _) _⟩
      case measure => simp [intOf]; omega
    · have hk64 : k = 64 := by omega
      rw [hk64] at hw
      clear hk64
      obtain ⟨R, hR⟩ : ∃ R, R = rounds h0 S 64 := ⟨_, rfl⟩
      rw [← hR] at hw
      have hRl : R.length = 8 := by rw [hR]; exact rounds_length h0 S HL.out 64
      have hend : addTo R h0 8 = compI h0 ws := by rw [addTo_comm, hR, HSd.out]; rfl
      have k0 := (hbr.block _ (by omega)).trans H0.out
      have k2 := (hbr.block _ (by omega)).trans H2.out
      have hb8 : Below w.heap.size w wr := hb6'.trans (hbr.mono (by omega))
      have HR := Lib.hid hRl
      have HE := Lib.hid hend
      have K0 := Lib.hid k0
      have K1 := Lib.hid hw
      have K2 := Lib.hid k2
      clear hR hRl hend k0 hw k2 HW hbr hb6' H0 H2
      go_wp2
      obtain ⟨w8, hw8⟩ : ∃ w8 : World, w8 = wr := ⟨_, rfl⟩
      rw [← hw8] at K0 K1 K2 hb8 ⊢
      have k1' : w8.heap[F + 1]? = some (.cells (ua (addTo R h0 0)) 28 (0, 0)) := by rw [addTo_zero R h0 HR.out]; exact K1.out
      have K1' := Lib.hid k1'
      clear hw8 k1'
      go_loopw [13] (fun i wq => ∃ k : Nat, k ≤ 8 ∧ i = .int .i64 k ∧ wq.heap[F + 1]? = some (.cells (ua (addTo R h0 k)) 28 (0, 0)) ∧ wq.heap[w.heap.size]? = some (.cells (ua h0) 28 (0, 0)) ∧
          wq.heap[w.heap.size + 1 + 1]? = some (.cells (ua (zs 8)) 28 (0, 0)) ∧ Below w.heap.size w wq) (fun i _ => 8 - (intOf i).toNat)
      case atStart => exact ⟨0, by omega, rfl, K1'.out, K0.out, K2.out, hb8⟩
      case round =>
        obtain ⟨j, hj, rfl, q0, q1, q2, hbq⟩ := hrel
        by_cases hlt : j < 8
        · have c0 := cell_ua q0 j (by rw [addTo_length]; exact hlt)
          rw [addTo_get R h0 j hlt] at c0
          have c1 := cell_ua q1 j (by rw [HL.out]; exact hlt)
          have f0 := frozen_of_row _ _ j _ _ q0
          have Q0 := Lib.hid q0
          have Q1 := Lib.hid q1
          have Q2 := Lib.hid q2
          clear q0 q1 q2
          go_wp2
          go_still_tail 9, (by kernel_rfl)
          change wpList _ _ _ _ _ wr.drew
          rw [IntKind.wrap_u32']
          go_wp2
          go_roundw
          case rel =>
            refine ⟨j + 1, by omega, by go_num, ?_, ?_, ?_, ?_⟩
            · have h1 := set_ua (w := wr) (i := j) (v := (R.getD j 0 + h0.getD j 0) % 4294967296) Q0.out
              rw [addTo_set] at h1
              exact h1
            · exact other1 (w := wr) (by omega) Q1.out
            · exact other1 (w := wr) (by omega) Q2.out
            · exact (Below.setCell (p := ⟨F + 1, j, none⟩) hbq (by simp; omega) _).drew
          case measure => simp [intOf]; omega
        · have hj8 : j = 8 := by omega
          rw [hj8, HE.out] at q0
          have E1 := Lib.hid (compI_length h0 ws)
          have Q0 := Lib.hid q0
          have Q2 := Lib.hid q2
          clear q0 q1 q2 hj8
          go_wp2_with (first
            | (refine wpList_load_row rfl 28 (.tmp 7) rfl (F + 1) rfl 28 (ua (compI h0 ws)) (0, 0) (.array 8 22) Q0.out und28 rfl (size28 E1.out) ?_)
            | (refine wpList_store_row rfl 28 (.tmp 4) (.tmp 111) rfl (w.heap.size + 1 + 1) (ua (compI h0 ws)) rfl rfl 28 (ua (zs 8)) Q2.out (size28 E1.out) (same_size (E1.out.symm)) (ua_one _) ?_))
          refine bodyPost_ret (v := .agg (ua (compI h0 ws))) (results_cell_row rfl _ _ (w.heap.size + 1 + 1) 28 (ua (compI h0 ws)) (0, 0) (.array 8 22) rfl (setRow_heap wr _ _ _ _ _ Q2.out) und28 rfl (size28 E1.out)) rfl ⟨rfl, ?_⟩
          exact below_setRow hbq (by omega) _
end Go.Proofs.YtiagngggnhdefaaDoor
