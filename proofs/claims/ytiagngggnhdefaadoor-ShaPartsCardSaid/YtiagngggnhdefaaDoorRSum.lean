/-
  What the document's Sum hands back, for any text of no more than a million bytes: the same hash; no older memory is changed.
-/
import Derived.Test.YtiagngggnhdefaaDoorSumMath
import Derived.Test.YtiagngggnhdefaaDoorRCompress
import Derived.Test.YtiagngggnhdefaaDoorRPad
namespace Go.Proofs.YtiagngggnhdefaaDoor
open Go.RowKit

/-- The block that begins at place 64 n. -/
def blk (al : List UInt8) (n : Nat) : List Int := u8s ((al.drop (64 * n)).take 64)
theorem blk_get (al : List UInt8) (n j : Nat) (hj : j < 64) : (blk al n).getD j 0 = ((al.getD (64 * n + j) 0).toNat : Int) := by
  unfold blk u8s
  by_cases h : 64 * n + j < al.length
  · simp [h, hj]
  · simp [h, hj]

theorem byte_at (al : ByteArray) (i : Nat) (h : i < al.size) : al[i].toNat = (al.data.toList.getD i 0).toNat := by
  have h2 : i < al.data.toList.length := by rw [← Lib.size_eq]; exact h
  obtain ⟨⟨l⟩⟩ := al
  have h3 : i < l.length := h2
  show l[i].toNat = (l.getD i 0).toNat
  simp [h3]
theorem byte_step (al : ByteArray) (k j : Nat) (hj : j < 64) (h : 64 * k + j < al.size) :
    IntKind.u32.wrap (IntKind.u32.wrap ((wds (blk al.data.toList k) j)[j / 4]?.getD 0 * 256) + IntKind.u32.wrap (al[64 * k + j].toNat : Int)) = ((wds (blk al.data.toList k) j).getD (j / 4) 0 * 256 + (blk al.data.toList k).getD j 0) % 4294967296 := by
  rw [IntKind.wrap_u32', IntKind.wrap_u32', IntKind.wrap_u32', blk_get _ _ _ hj, byte_at al _ h]
  show _ = ((wds (blk al.data.toList k) j)[j / 4]?.getD 0 * 256 + _) % 4294967296
  omega

set_option maxRecDepth 100000 in
set_option maxHeartbeats 3200000 in
theorem rsum_any (ms : List UInt8) (s : ByteArray) (hs : s.data.toList = ms) (hlen : ms.length ≤ 1000000) (w : World) :
    Calls Tryd.prog 17 #[.string s] w fun e w' => e = .returned (.agg (ub (sumI ms))) ∧ Below w.heap.size w w' := by
  have hss : s.size = ms.length := by rw [Lib.size_eq, hs]
  have HS := Lib.hid hs
  have HSS := Lib.hid hss
  clear hs
  have hpz := padZ_lt ms.length
  obtain ⟨al, hal⟩ : ∃ al : ByteArray, al = s ++ ⟨(padL ms.length).toArray⟩ := ⟨_, rfl⟩
  have hpl : (⟨(padL ms.length).toArray⟩ : ByteArray).size = padZ ms.length + 9 := by rw [Lib.size_eq]; exact padL_length _
  have hald : al.data.toList = ms ++ padL ms.length := by rw [hal]; simp [HS.out]
  have hals : al.size = ms.length + (padZ ms.length + 9) := by rw [Lib.size_eq, hald, List.length_append, padL_length]
  have hadd : ∀ w, (Op.stringOp .add s ⟨(padL ms.length).toArray⟩).run Tryd.prog w = .ok (.string al) w := fun w => by
    rw [hal]; exact run_string_add_sum w s _ (by omega)
  have HADD := Lib.hid hadd
  have HALD := Lib.hid hald
  have HALS := Lib.hid hals
  clear hpl hald hals hadd hal
  go_enter Tryd.func17, Tryd.ntmps17
  go_wp2_with fail
  refine (rpad_mid ms.length (w.alloc (.cells (ub (zs 32)) 33)) (by omega)).mono ?_
  rintro e w1 ⟨rfl, hb1⟩
  unfold str
  have hadd := HADD.out
  have k0 := (hb1.block w.heap.size (by simp)).trans (heap_alloc_new w (.cells (ub (zs 32)) 33))
  have hs1 : w.heap.size < w1.heap.size := by have := hb1.size; simp at this; omega
  have hb1' : Below w.heap.size w w1 := ((Below.refl _ _).alloc (Nat.le_refl _) _).trans (hb1.mono (by simp))
  have K0 := Lib.hid k0
  clear hb1 k0
  go_wp2_with fail
  refine (first_any w1).mono ?_
  rintro e w2 ⟨rfl, hb2⟩
  have k0 := (hb2.block w.heap.size (by omega)).trans K0.out
  have hb2' : Below w.heap.size w w2 := hb1'.trans (hb2.mono (by omega))
  have hs2 : w.heap.size < w2.heap.size := Nat.lt_of_lt_of_le hs1 hb2.size
  have K0' := Lib.hid k0
  clear hb2 k0 K0 hb1' hs1 hadd
  go_wp2_with (refine wpList_store_row rfl 28 (.tmp 4) (.tmp 15) rfl w2.heap.size (ua ii) rfl rfl 28 (ua (zs 8)) (heap_alloc_new w2 _) (size28 rfl) (same_size rfl) (ua_one _) ?_; rw [World.setRow_alloc_new])
  have k3 : (w2.alloc (.cells (ua ii) 28)).heap[w2.heap.size]? = some (.cells (ua ii) 28 (0, 0)) := heap_alloc_new w2 _
  have k0 := (Below.heap_alloc w2 (.cells (ua ii) 28) w.heap.size (by omega)).trans K0'.out
  have hb3 : Below w.heap.size w (w2.alloc (.cells (ua ii) 28)) := hb2'.alloc (by omega) _
  have hs3 : (w2.alloc (.cells (ua ii) 28)).heap.size = w2.heap.size + 1 := by simp
  obtain ⟨w3, hw3⟩ : ∃ w3, w3 = w2.alloc (.cells (ua ii) 28) := ⟨_, rfl⟩
  obtain ⟨G, hG⟩ : ∃ G, G = w2.heap.size := ⟨_, rfl⟩
  rw [← hw3] at k3 k0 hb3 hs3 ⊢
  rw [← hG] at k3 hs3 hs2 ⊢
  have K3 := Lib.hid k3
  have K0 := Lib.hid k0
  have HS3 := Lib.hid hs3
  have hals := HALS.out
  clear hw3 hG k3 k0 hs3 hb2' K0'
  go_loopw [5] (fun a wr => ∃ k : Nat, 64 * k ≤ al.size ∧ a = .int .i64 (64 * (k : Int)) ∧ wr.heap[G]? = some (.cells (ua (runB ii k al.data.toList)) 28 (0, 0)) ∧ wr.heap[w.heap.size]? = some (.cells (ub (zs 32)) 33 (0, 0)) ∧ G < wr.heap.size ∧ Below w.heap.size w wr) (fun a _ => al.size - (intOf a).toNat)
  case atStart => exact ⟨0, by omega, rfl, K3.out, K0.out, by have := HS3.out; omega, hb3⟩
  case round =>
    obtain ⟨k, hk, rfl, hw, hz, hsz, hbr⟩ := hrel
    by_cases hlt : 64 * k < al.size
    · have hfit : 64 * k + 64 ≤ al.size := by
        have := padZ_full ms.length
        rw [padL_length] at this
        omega
      have HW := Lib.hid hw
      have HZ := Lib.hid hz
      clear hw hz hals
      have e6 : IntKind.i64.wrap (64 * (k : Int) + 64) = 64 * (k : Int) + 64 := by rw [IntWalk.i64_in _ (by have := HALS.out; omega)]
      have hdt : decide (64 * (k : Int) < (al.size : Int)) = true := by simp; omega
      go_wp2
      have g0 : (wr.alloc (.cells (ua (wds (blk al.data.toList k) 0)) 23)).heap[wr.heap.size]? = some (.cells (ua (wds (blk al.data.toList k) 0)) 23 (0, 0)) := heap_alloc_new wr _
      have g1 := (Below.heap_alloc wr (.cells (ua (wds (blk al.data.toList k) 0)) 23) G (by omega)).trans HW.out
      have g2 := (Below.heap_alloc wr (.cells (ua (wds (blk al.data.toList k) 0)) 23) w.heap.size (by omega)).trans HZ.out
      have hb4 : Below w.heap.size w (wr.alloc (.cells (ua (wds (blk al.data.toList k) 0)) 23)) := hbr.alloc (by omega) _
      have hs4 : (wr.alloc (.cells (ua (wds (blk al.data.toList k) 0)) 23)).heap.size = wr.heap.size + 1 := by simp
      change Code.wp _ _ _ _ (wr.alloc (.cells (ua (wds (blk al.data.toList k) 0)) 23))
      obtain ⟨w4, hw4⟩ : ∃ w4, w4 = wr.alloc (.cells (ua (wds (blk al.data.toList k) 0)) 23) := ⟨_, rfl⟩
      obtain ⟨F, hF⟩ : ∃ F, F = wr.heap.size := ⟨_, rfl⟩
      rw [← hw4] at g0 g1 g2 hb4 hs4 ⊢
      rw [← hF] at g0 hs4 hsz ⊢
      have G0 := Lib.hid g0
      have G1 := Lib.hid g1
      have G2 := Lib.hid g2
      have HS4 := Lib.hid hs4
      clear g0 g1 g2 hs4 hw4 hF HW HZ hbr
      go_loopw [7] (fun i wq => ∃ j : Nat, j ≤ 64 ∧ i = .int .i64 j ∧ wq.heap[F]? = some (.cells (ua (wds (blk al.data.toList k) j)) 23 (0, 0)) ∧ Below F w4 wq) (fun i _ => 64 - (intOf i).toNat)
      case atStart => exact ⟨0, by omega, rfl, G0.out, Below.refl _ _⟩
      case round =>
        obtain ⟨j, hj, rfl, hq, hbq⟩ := hrel
        by_cases hlj : j < 64
        · have c0 := cell_ua hq (j / 4) (by rw [wds_length]; omega)
          have f0 := frozen_of_row wr _ (j / 4) _ _ hq
          have HQ := Lib.hid hq
          have e4 : IntKind.i64.wrap ((j : Int) / 4) = (j : Int) / 4 := by rw [IntWalk.i64_in _ (by omega)]
          have e5 : IntKind.i64.wrap (64 * (k : Int) + (j : Int)) = 64 * (k : Int) + (j : Int) := by rw [IntWalk.i64_in _ (by have := HALS.out; omega)]
          have p4 : (0 : Int) ≤ (j : Int) / 4 := by omega
          have q4 : (j : Int) / 4 < 16 := by omega
          have p5 : (0 : Int) ≤ 64 * (k : Int) + (j : Int) := by omega
          have q5 : 64 * (k : Int) + (j : Int) < (al.size : Int) := by omega
          have t4 : ((j : Int) / 4).toNat = j / 4 := by omega
          have t5 : (64 * (k : Int) + (j : Int)).toNat = 64 * k + j := by omega
          clear hq
          go_wp2
          go_still_tail 15, (by kernel_rfl)
          change wpList _ _ _ _ _ wr.drew
          rw [byte_step al k j hlj (by omega)]
          go_wp2
          go_roundw
          case rel =>
            refine ⟨j + 1, by omega, by go_num, ?_, ?_⟩
            · exact (set_ua (w := wr) HQ.out).trans rfl
            · exact (Below.setCell (p := ⟨F, j / 4, none⟩) hbq (Nat.le_refl _) _).drew
          case measure => simp [intOf]; omega
        · have hj64 : j = 64 := by omega
          rw [hj64] at hq
          obtain ⟨X, hX⟩ : ∃ X, X = wds (blk al.data.toList k) 64 := ⟨_, rfl⟩
          have hXl : X.length = 16 := by rw [hX]; exact wds_length _ _
          rw [← hX] at hq
          obtain ⟨R, hR⟩ : ∃ R, R = runB ii k al.data.toList := ⟨_, rfl⟩
          have hRl : R.length = 8 := by rw [hR]; exact runB_length _ rfl _ _
          have m1 : wr.heap[G]? = some (.cells (ua R) 28 (0, 0)) := by rw [hR]; exact (hbq.block G (by omega)).trans G1.out
          have m2 := (hbq.block w.heap.size (by omega)).trans G2.out
          have hbw : Below w.heap.size w wr := hb4.trans (hbq.mono (by omega))
          have hnx : compI R X = runB ii (k + 1) al.data.toList := by rw [hR, hX]; rfl
          have hsq : F < wr.heap.size := by have := hbq.size; have := HS4.out; omega
          have Q := Lib.hid hq
          have XL := Lib.hid hXl
          have RL := Lib.hid hRl
          have M1 := Lib.hid m1
          have M2 := Lib.hid m2
          have NX := Lib.hid hnx
          have CL := Lib.hid (compI_length R X)
          clear hq hX hXl hR hRl m1 m2 hnx hbq hb4 G0 G1 G2
          go_wp2_with (first
            | (refine wpList_load_row rfl 28 (.tmp 4) rfl G rfl 28 (ua R) (0, 0) (.array 8 22) M1.out und28 rfl (size28 RL.out) ?_)
            | (refine wpList_load_row rfl 23 (.tmp 6) rfl F rfl 23 (ua X) (0, 0) (.array 16 22) Q.out und23 rfl (size23 XL.out) ?_))
          refine (rcompress_any R X RL.out XL.out wr).mono ?_
          rintro e w6 ⟨rfl, hb6⟩
          have n1 := (hb6.block G (by omega)).trans M1.out
          have n2 := (hb6.block w.heap.size (by omega)).trans M2.out
          have hbw6 : Below w.heap.size w w6 := hbw.trans (hb6.mono (by omega))
          have hs6 : G < w6.heap.size := by have := hb6.size; omega
          have N1 := Lib.hid n1
          have N2 := Lib.hid n2
          clear n1 n2 hb6 hbw
          go_wp2_with (refine wpList_store_row rfl 28 (.tmp 4) (.tmp 43) rfl G (ua (compI R X)) rfl rfl 28 (ua R) N1.out (size28 CL.out) (same_size (RL.out.trans CL.out.symm)) (ua_one _) ?_)
          go_roundw
          case rel =>
            refine ⟨k + 1, by omega, ?_, ?_, ?_, ?_, ?_⟩
            · congr 1
            · rw [← NX.out]; exact setRow_heap w6 _ _ _ _ _ N1.out
            · exact (setRow_other w6 _ _ _ (by omega)).trans N2.out
            · simpa using hs6
            · exact below_setRow hbw6 (by omega) _
          case measure => simp [intOf]; omega
    · have hke : 64 * k = al.size := by omega
      obtain ⟨S, hS⟩ : ∃ S, S = hstate (ms ++ padL ms.length) := ⟨_, rfl⟩
      have hSl : S.length = 8 := by rw [hS]; exact hstate_length _
      have hSk : runB ii k al.data.toList = S := by
        rw [hS, HALD.out]
        unfold hstate
        congr 1
        rw [List.length_append, padL_length]
        omega
      rw [hSk] at hw
      have HW := Lib.hid hw
      have HZ := Lib.hid hz
      have HS := Lib.hid hS
      have SL := Lib.hid hSl
      clear hw hz hals hS hSl hSk
      go_wp2
      have hw5 : (wr.alloc (.cells (ub (zs 32)) 33)).heap[wr.heap.size]? = some (.cells (ub (outB S 0)) 33 (0, 0)) := by rw [outB_zero]; exact heap_alloc_new wr _
      have k5 := (Below.heap_alloc wr (.cells (ub (zs 32)) 33) w.heap.size (by omega)).trans HZ.out
      have k6 := (Below.heap_alloc wr (.cells (ub (zs 32)) 33) G (by omega)).trans HW.out
      have hb5 : Below w.heap.size w (wr.alloc (.cells (ub (zs 32)) 33)) := hbr.alloc (by omega) _
      change Code.wp _ _ _ _ (wr.alloc (.cells (ub (zs 32)) 33))
      obtain ⟨w5, hw5e⟩ : ∃ w5, w5 = wr.alloc (.cells (ub (zs 32)) 33) := ⟨_, rfl⟩
      obtain ⟨g, hg⟩ : ∃ g, g = wr.heap.size := ⟨_, rfl⟩
      rw [← hw5e] at hw5 k5 k6 hb5 ⊢
      rw [← hg] at hw5 hsz ⊢
      have W5 := Lib.hid hw5
      have K5 := Lib.hid k5
      have K6 := Lib.hid k6
      clear hw5 k5 k6 hw5e hg hbr HW HZ
      go_loopw [9] (fun i wq => ∃ j : Nat, j ≤ 32 ∧ i = .int .i64 j ∧ wq.heap[g]? = some (.cells (ub (outB S j)) 33 (0, 0)) ∧ Below g w5 wq) (fun i _ => 32 - (intOf i).toNat)
      case atStart => exact ⟨0, by omega, rfl, W5.out, Below.refl _ _⟩
      case round =>
        obtain ⟨j, hj, rfl, hq, hbq⟩ := hrel
        by_cases hlt : j < 32
        · have c0 := cell_ub hq j (by rw [outB_length]; exact hlt)
          have f0 := frozen_of_row _ _ j _ _ hq
          have h6 := (hbq.block G (by omega)).trans K6.out
          have cS := cell_ua h6 (j / 4) (by rw [SL.out]; omega)
          have HQ := Lib.hid hq
          clear hq h6
          go_wp2
          go_roundw
          case rel =>
            refine ⟨j + 1, by omega, by go_num, ?_, hbq.setCell (Nat.le_refl _) _⟩
            refine (set_ub HQ.out).trans ?_
            rw [← outB_set]
            rfl
          case measure => simp [intOf]; omega
        · have hj32 : j = 32 := by omega
          rw [hj32] at hq
          have e1 : outB S 32 = sumI ms := by rw [HS.out]; rfl
          rw [e1] at hq
          have HQ := Lib.hid hq
          have hr := (hbq.block w.heap.size (by omega)).trans K5.out
          have HR := Lib.hid hr
          clear hq hj32 e1 hr
          go_wp2_with (first
            | (refine wpList_load_row rfl 33 (.tmp 8) rfl g rfl 33 (ub (sumI ms)) (0, 0) (.array 32 5) HQ.out und33 rfl (size33 (sumI_length ms)) ?_)
            | (refine wpList_store_row rfl 33 (.tmp 2) (.tmp 61) rfl w.heap.size (ub (sumI ms)) rfl rfl 33 (ub (zs 32)) HR.out (size33 (sumI_length ms)) (same_ub (by rw [sumI_length]; rfl)) (ub_one _) ?_))
          refine bodyPost_ret (v := .agg (ub (sumI ms))) (results_cell_row rfl _ _ w.heap.size 33 (ub (sumI ms)) (0, 0) (.array 32 5) rfl (setRow_heap wr _ _ _ _ _ HR.out) und33 rfl (size33 (sumI_length ms))) rfl ⟨rfl, ?_⟩
          exact below_setRow (hb5.trans (hbq.mono (by omega))) (Nat.le_refl _) _
end Go.Proofs.YtiagngggnhdefaaDoor
