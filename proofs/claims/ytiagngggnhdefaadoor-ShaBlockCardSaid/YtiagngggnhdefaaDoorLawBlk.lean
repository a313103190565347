/-
  The walk of the law ShaBlock: for every text it returns true, where the two tables hold their numbers; no older memory is changed.
-/
import Derived.Test.YtiagngggnhdefaaDoorLawSum
import Derived.Test.YtiagngggnhdefaaDoorCompress
namespace Go.Proofs.YtiagngggnhdefaaDoor
open Go.RowKit

theorem sumI_get (ms : List UInt8) (j : Nat) (hj : j < 32) : (sumI ms).getD j 0 = (hstate (ms ++ padL ms.length)).getD (j / 4) 0 / 2 ^ (24 - 8 * (j % 4)) % 256 := by
  unfold sumI outB
  simp [hj]
theorem hstate_one (l : List UInt8) (h : l.length = 64) : hstate l = compI ii (wds (blk l 0) 64) := by
  unfold hstate
  rw [h]
  rfl
theorem blk_bytes (l : List UInt8) (n : Nat) : IsBytes (blk l n) := u8s_bytes _

set_option maxRecDepth 100000 in
set_option maxHeartbeats 3200000 in
theorem lawBlock_short (s : ByteArray) (w : World) (hI : InitIn w) (hK : KeysIn w) (hn : s.size ≤ 55) :
    Calls Tryd.prog 8 #[.string s] w fun e w' => e = .returned (.bool true) ∧ Below w.heap.size w w' := by
  have hp := hI.pos
  have HI := Lib.hid hI
  have HK := Lib.hid hK
  clear hI hK
  have hd : decide (55 < (s.size : Int)) = false := by simp; omega
  go_enter Tryd.func8, Tryd.ntmps8
  go_wp2_with fail
  refine (awake_any w HI.out HK.out).mono ?_
  rintro e w1 ⟨rfl, hb1⟩
  go_wp2_with fail
  obtain ⟨t, ht⟩ : ∃ t, t = s := ⟨_, rfl⟩
  rw [← ht]
  have hts : t.size ≤ 55 := by rw [ht]; exact hn
  clear ht
  have hl : t.data.toList.length = t.size := by rw [← Lib.size_eq]
  have HL := Lib.hid hl
  have hs1 := hb1.size
  refine (pad_mid t.size w1 (by omega)).mono ?_
  rintro e w2 ⟨rfl, hb2⟩
  have hb2' : Below w.heap.size w w2 := hb1.trans (hb2.mono hs1)
  have hs2 : w.heap.size ≤ w2.heap.size := by have := hb2.size; omega
  obtain ⟨al, hal⟩ : ∃ al : ByteArray, al = t ++ ⟨(padL t.size).toArray⟩ := ⟨_, rfl⟩
  have hald : al.data.toList = t.data.toList ++ padL t.data.toList.length := by rw [hal, HL.out]; simp
  have hals : al.size = 64 := by
    rw [Lib.size_eq, hald, List.length_append, padL_length, HL.out]
    unfold padZ
    omega
  have hadd : ∀ w, (Op.stringOp .add t ⟨(padL t.size).toArray⟩).run Tryd.prog w = .ok (.string al) w := fun w => by
    have hz : (⟨(padL t.size).toArray⟩ : ByteArray).size = padZ t.size + 9 := by rw [Lib.size_eq]; exact padL_length _
    have := padZ_lt t.size
    rw [hal]; exact run_string_add_sum w t _ (by omega)
  have HALD := Lib.hid hald
  have HALS := Lib.hid hals
  clear hb1 hb2 hal hald
  unfold str
  have hdz : (((al.size : Nat) : Int) == 64) = true := by rw [hals]; rfl
  go_wp2_with fail
  have g0 : (w2.alloc (.cells (ua (wds (blk al.data.toList 0) 0)) 23)).heap[w2.heap.size]? = some (.cells (ua (wds (blk al.data.toList 0) 0)) 23 (0, 0)) := heap_alloc_new w2 _
  have hb3 : Below w.heap.size w (w2.alloc (.cells (ua (wds (blk al.data.toList 0) 0)) 23)) := hb2'.alloc hs2 _
  have hs3 : (w2.alloc (.cells (ua (wds (blk al.data.toList 0) 0)) 23)).heap.size = w2.heap.size + 1 := by simp
  change Code.wp _ _ _ _ (w2.alloc (.cells (ua (wds (blk al.data.toList 0) 0)) 23))
  obtain ⟨w3, hw3⟩ : ∃ w3, w3 = w2.alloc (.cells (ua (wds (blk al.data.toList 0) 0)) 23) := ⟨_, rfl⟩
  obtain ⟨F, hF⟩ : ∃ F, F = w2.heap.size := ⟨_, rfl⟩
  rw [← hw3] at g0 hb3 hs3 ⊢
  rw [← hF] at g0 hs3 hs2 ⊢
  have G0 := Lib.hid g0
  have HS3 := Lib.hid hs3
  clear g0 hs3 hw3 hF hb2' hadd hdz hals hd
  go_loopw [6] (fun i wq => ∃ j : Nat, j ≤ 64 ∧ i = .int .i64 j ∧ wq.heap[F]? = some (.cells (ua (wds (blk al.data.toList 0) j)) 23 (0, 0)) ∧ Below F w3 wq) (fun i _ => 64 - (intOf i).toNat)
  case atStart => exact ⟨0, by omega, rfl, G0.out, Below.refl _ _⟩
  case round =>
    obtain ⟨j, hj, rfl, hq, hbq⟩ := hrel
    by_cases hlj : j < 64
    · have c0 := cell_ua hq (j / 4) (by rw [wds_length]; omega)
      have f0 := frozen_of_row wr _ (j / 4) _ _ hq
      have HQ := Lib.hid hq
      have hz := HALS.out
      have hjz : j < al.size := by omega
      have hy : ((al[j]).toNat : Int) = (blk al.data.toList 0).getD j 0 := by rw [blk_get _ _ _ hlj, byte_at al j hjz]; simp
      have hb1 := (blk_bytes al.data.toList 0).get j
      obtain ⟨x, hx⟩ : ∃ x, x = (wds (blk al.data.toList 0) j).getD (j / 4) 0 := ⟨_, rfl⟩
      have hx0 : 0 ≤ x := by
        rw [hx]
        have : (wds (blk al.data.toList 0) j)[j / 4]'(by rw [wds_length]; omega) ∈ wds (blk al.data.toList 0) j := List.getElem_mem _
        have := (wds_lo (blk al.data.toList 0) j _ this).1
        simpa [wds_length, show j / 4 < 16 by omega] using this
      rw [← hx] at c0
      have HX := Lib.hid hx
      have HY := Lib.hid hy
      have HY1 := Lib.hid hb1
      clear hq hx hy hb1
      go_wp2
      have e4 : IntKind.i64.wrap ((j : Int) / 4) = (j : Int) / 4 := by rw [IntWalk.i64_in _ (by omega)]
      have p4 : (0 : Int) ≤ (j : Int) / 4 := by omega
      have q4 : (j : Int) / 4 < 16 := by omega
      have q64 : (j : Int) < (al.size : Int) := by omega
      have t4 : ((j : Int) / 4).toNat = j / 4 := by omega
      go_still_tail 13, (by kernel_rfl)
      change wpList _ _ _ _ _ wr.drew
      go_wp2
      have e : bits .or .u32 (x * 256 % 4294967296) (((al[j]).toNat : Int) % 4294967296) = (x * 256 + (blk al.data.toList 0).getD j 0) % 4294967296 := by
        rw [show (((al[j]).toNat : Int) % 4294967296) = (blk al.data.toList 0).getD j 0 by have := HY.out; have := HY1.out; omega]
        exact or_byte x _ hx0 HY1.out.1 HY1.out.2
      have E := Lib.hid e
      clear e
      go_roundw
      case rel =>
        refine ⟨j + 1, by omega, by go_num, ?_, ?_⟩
        · refine (set_ua (w := wr) HQ.out).trans ?_
          rw [E.out, HX.out]
          rfl
        · exact (Below.setCell (p := ⟨F, j / 4, none⟩) hbq (Nat.le_refl _) _).drew
      case measure => simp [intOf]; omega
    · have hj64 : j = 64 := by omega
      rw [hj64] at hq
      obtain ⟨X, hX⟩ : ∃ X, X = wds (blk al.data.toList 0) 64 := ⟨_, rfl⟩
      have hXl : X.length = 16 := by rw [hX]; exact wds_length _ _
      rw [← hX] at hq
      obtain ⟨C, hC⟩ : ∃ C, C = compI ii X := ⟨_, rfl⟩
      have hCl : C.length = 8 := by rw [hC]; exact compI_length ii X
      have hst : hstate (t.data.toList ++ padL t.data.toList.length) = C := by
        rw [hC, hX, ← HALD.out]
        exact hstate_one _ (by rw [← Lib.size_eq]; exact HALS.out)
      have hbw : Below w.heap.size w wr := hb3.trans (hbq.mono (by omega))
      have hsw : w.heap.size ≤ wr.heap.size := hbw.size
      have Q := Lib.hid hq
      have XL := Lib.hid hXl
      have CL := Lib.hid hCl
      have HC := Lib.hid hC
      have HST := Lib.hid hst
      clear hq hX hXl hC hCl hst hbq hb3 G0
      go_wp2_with (refine wpList_load_row rfl 23 (.tmp 5) rfl F rfl 23 (ua X) (0, 0) (.array 16 22) Q.out und23 rfl (size23 XL.out) ?_)
      refine (compress_any ii X rfl XL.out wr (HK.out.below hbw (by omega))).mono ?_
      rintro e w6 ⟨rfl, hb6⟩
      rw [← HC.out]
      have hb6' : Below w.heap.size w w6 := hbw.trans (hb6.mono hsw)
      have hs6 : w.heap.size ≤ w6.heap.size := hb6'.size
      clear hbw hb6
      go_wp2_with (refine wpList_store_row rfl 28 (.tmp 7) (.tmp 43) rfl w6.heap.size (ua C) rfl rfl 28 (ua (zs 8)) (heap_alloc_new w6 _) (size28 CL.out) (same_size (show (zs 8).length = C.length by rw [CL.out]; rfl)) (ua_one _) ?_; rw [World.setRow_alloc_new])
      have hb7 : Below w.heap.size w (w6.alloc (.cells (ua C) 28)) := hb6'.alloc hs6 _
      have g7 : (w6.alloc (.cells (ua C) 28)).heap[w6.heap.size]? = some (.cells (ua C) 28 (0, 0)) := heap_alloc_new w6 _
      have hs7 : (w6.alloc (.cells (ua C) 28)).heap.size = w6.heap.size + 1 := by simp
      obtain ⟨w7, hw7⟩ : ∃ w7, w7 = w6.alloc (.cells (ua C) 28) := ⟨_, rfl⟩
      rw [← hw7] at hb7 g7 hs7 ⊢
      rw [← hs7]
      have hb8 : Below w.heap.size w (w7.alloc (.cells #[.string t] 9)) := hb7.alloc (by omega) _
      have g8 : (w7.alloc (.cells #[.string t] 9)).heap[w6.heap.size]? = some (.cells (ua C) 28 (0, 0)) := (Below.heap_alloc w7 _ _ (by omega)).trans g7
      have hs8 : (w7.alloc (.cells #[.string t] 9)).heap.size = w6.heap.size + 2 := by simp; omega
      obtain ⟨w8, hw8⟩ : ∃ w8, w8 = w7.alloc (.cells #[.string t] 9) := ⟨_, rfl⟩
      have hc := one_part w7 w8 t hw8
      rw [← hw8] at hb8 g8 hs8 ⊢
      refine (sum_some t.data.toList [t.data.toList] (by simp) (by rw [HL.out]; omega) w7.heap.size 1 1 rfl w8 (HI.out.below hb8 (by omega)) (HK.out.below hb8 (by omega)) (by omega) hc (by decide)).mono ?_
      rintro e w9 ⟨rfl, hb9⟩
      have g9 := (hb9.block w6.heap.size (by omega)).trans g8
      have hb9' : Below w.heap.size w w9 := hb8.trans (hb9.mono (by omega))
      have hs9 : w6.heap.size < w9.heap.size := by have := hb9.size; omega
      obtain ⟨G, hG⟩ : ∃ G, G = w6.heap.size := ⟨_, rfl⟩
      rw [← hG] at g9 hs9 hs6 ⊢
      obtain ⟨B, hB⟩ : ∃ B, B = sumI t.data.toList := ⟨_, rfl⟩
      rw [← hB]
      have hBl : B.length = 32 := by rw [hB]; exact sumI_length _
      have hBg : ∀ j, j < 32 → B.getD j 0 = C.getD (j / 4) 0 / 2 ^ (24 - 8 * (j % 4)) % 256 := by
        intro j hj
        rw [hB, sumI_get _ j hj, HST.out]
      have BL := Lib.hid hBl
      have BG := Lib.hid hBg
      have K9 := Lib.hid g9
      clear hc hw8 hw7 hs7 hs8 g7 g8 g9 hb6' hb7 hb8 hb9 hG hB hBl hBg Q XL HC HST
      go_wp2_with (refine wpList_store_row rfl 33 (.tmp 8) (.tmp 46) rfl w9.heap.size (ub B) rfl rfl 33 (ub (zs 32)) (heap_alloc_new w9 _) (size33 BL.out) (same_ub (by rw [BL.out]; rfl)) (ub_one _) ?_; rw [World.setRow_alloc_new])
      have g10 : (w9.alloc (.cells (ub B) 33)).heap[w9.heap.size]? = some (.cells (ub B) 33 (0, 0)) := heap_alloc_new w9 _
      have k10 := (Below.heap_alloc w9 (.cells (ub B) 33) G (by omega)).trans K9.out
      have hb10 : Below w.heap.size w (w9.alloc (.cells (ub B) 33)) := hb9'.alloc (by omega) _
      obtain ⟨w10, hw10⟩ : ∃ w10, w10 = w9.alloc (.cells (ub B) 33) := ⟨_, rfl⟩
      obtain ⟨D, hD⟩ : ∃ D, D = w9.heap.size := ⟨_, rfl⟩
      rw [← hw10] at g10 k10 hb10 ⊢
      rw [← hD] at g10 ⊢
      have G10 := Lib.hid g10
      have K10 := Lib.hid k10
      clear g10 k10 hw10 hD hb9' K9
      go_loopw [9] (fun i wq => ∃ j : Nat, j ≤ 32 ∧ i = .int .i64 j ∧ wq.heap = w10.heap ∧ Below w.heap.size w wq) (fun i _ => 32 - (intOf i).toNat)
      case atStart => exact ⟨0, by omega, rfl, rfl, hb10⟩
      case round =>
        obtain ⟨j, hj, rfl, hq, hbq⟩ := hrel
        by_cases hlj : j < 32
        · have cD := cell_ub (w := wr) (by rw [hq]; exact G10.out) j (by rw [BL.out]; exact hlj)
          have cG := cell_ua (w := wr) (by rw [hq]; exact K10.out) (j / 4) (by rw [CL.out]; omega)
          have hbg := BG.out j hlj
          rw [hbg] at cD
          obtain ⟨x, hx⟩ : ∃ x, x = C.getD (j / 4) 0 := ⟨_, rfl⟩
          rw [← hx] at cD cG
          have HQ := Lib.hid hq
          clear hbg hx hq
          go_wp2
          have e4 : IntKind.i64.wrap ((j : Int) / 4) = (j : Int) / 4 := by rw [IntWalk.i64_in _ (by omega)]
          have p4 : (0 : Int) ≤ (j : Int) / 4 := by omega
          have q4 : (j : Int) / 4 < 8 := by omega
          have q64 : (j : Int) < 32 := by omega
          have t4 : ((j : Int) / 4).toNat = j / 4 := by omega
          have hne : (x / 2 ^ (24 - 8 * (j % 4)) % 256 != x / 2 ^ min (24 - 8 * (j % 4)) 32 % 256) = false := by
            rw [Nat.min_eq_left (by omega)]; simp
          go_still_tail 14, (by kernel_rfl)
          change wpList _ _ _ _ _ wr.drew
          go_wp2
          go_roundw
          case rel => exact ⟨j + 1, by omega, by go_num, HQ.out, hbq.drew⟩
          case measure => simp [intOf]; omega
        · go_wp2
          go_ret
          exact ⟨rfl, hbq⟩
set_option maxRecDepth 100000 in
set_option maxHeartbeats 3200000 in
theorem lawBlock_long (s : ByteArray) (w : World) (hI : InitIn w) (hK : KeysIn w) (hn : 55 < s.size) :
    Calls Tryd.prog 8 #[.string s] w fun e w' => e = .returned (.bool true) ∧ Below w.heap.size w w' := by
  have hp := hI.pos
  have HI := Lib.hid hI
  have HK := Lib.hid hK
  clear hI hK
  have hd : decide (55 < (s.size : Int)) = true := by simp; omega
  go_enter Tryd.func8, Tryd.ntmps8
  go_wp2_with fail
  refine (awake_any w HI.out HK.out).mono ?_
  rintro e w1 ⟨rfl, hb1⟩
  go_wp2_with fail
  obtain ⟨t, ht⟩ : ∃ t, t = s.extract 0 55 := ⟨_, rfl⟩
  rw [← ht]
  have hts : t.size ≤ 55 := by rw [ht]; simp; omega
  rw [show min 55 s.size = t.size by rw [ht]; simp]
  clear ht
  have hl : t.data.toList.length = t.size := by rw [← Lib.size_eq]
  have HL := Lib.hid hl
  have hs1 := hb1.size
  refine (pad_mid t.size w1 (by omega)).mono ?_
  rintro e w2 ⟨rfl, hb2⟩
  have hb2' : Below w.heap.size w w2 := hb1.trans (hb2.mono hs1)
  have hs2 : w.heap.size ≤ w2.heap.size := by have := hb2.size; omega
  obtain ⟨al, hal⟩ : ∃ al : ByteArray, al = t ++ ⟨(padL t.size).toArray⟩ := ⟨_, rfl⟩
  have hald : al.data.toList = t.data.toList ++ padL t.data.toList.length := by rw [hal, HL.out]; simp
  have hals : al.size = 64 := by
    rw [Lib.size_eq, hald, List.length_append, padL_length, HL.out]
    unfold padZ
    omega
  have hadd : ∀ w, (Op.stringOp .add t ⟨(padL t.size).toArray⟩).run Tryd.prog w = .ok (.string al) w := fun w => by
    have hz : (⟨(padL t.size).toArray⟩ : ByteArray).size = padZ t.size + 9 := by rw [Lib.size_eq]; exact padL_length _
    have := padZ_lt t.size
    rw [hal]; exact run_string_add_sum w t _ (by omega)
  have HALD := Lib.hid hald
  have HALS := Lib.hid hals
  clear hb1 hb2 hal hald
  unfold str
  have hdz : (((al.size : Nat) : Int) == 64) = true := by rw [hals]; rfl
  go_wp2_with fail
  have g0 : (w2.alloc (.cells (ua (wds (blk al.data.toList 0) 0)) 23)).heap[w2.heap.size]? = some (.cells (ua (wds (blk al.data.toList 0) 0)) 23 (0, 0)) := heap_alloc_new w2 _
  have hb3 : Below w.heap.size w (w2.alloc (.cells (ua (wds (blk al.data.toList 0) 0)) 23)) := hb2'.alloc hs2 _
  have hs3 : (w2.alloc (.cells (ua (wds (blk al.data.toList 0) 0)) 23)).heap.size = w2.heap.size + 1 := by simp
  change Code.wp _ _ _ _ (w2.alloc (.cells (ua (wds (blk al.data.toList 0) 0)) 23))
  obtain ⟨w3, hw3⟩ : ∃ w3, w3 = w2.alloc (.cells (ua (wds (blk al.data.toList 0) 0)) 23) := ⟨_, rfl⟩
  obtain ⟨F, hF⟩ : ∃ F, F = w2.heap.size := ⟨_, rfl⟩
  rw [← hw3] at g0 hb3 hs3 ⊢
  rw [← hF] at g0 hs3 hs2 ⊢
  have G0 := Lib.hid g0
  have HS3 := Lib.hid hs3
  clear g0 hs3 hw3 hF hb2' hadd hdz hals hd
  go_loopw [6] (fun i wq => ∃ j : Nat, j ≤ 64 ∧ i = .int .i64 j ∧ wq.heap[F]? = some (.cells (ua (wds (blk al.data.toList 0) j)) 23 (0, 0)) ∧ Below F w3 wq) (fun i _ => 64 - (intOf i).toNat)
  case atStart => exact ⟨0, by omega, rfl, G0.out, Below.refl _ _⟩
  case round =>
    obtain ⟨j, hj, rfl, hq, hbq⟩ := hrel
    by_cases hlj : j < 64
    · have c0 := cell_ua hq (j / 4) (by rw [wds_length]; omega)
      have f0 := frozen_of_row wr _ (j / 4) _ _ hq
      have HQ := Lib.hid hq
      have hz := HALS.out
      have hjz : j < al.size := by omega
      have hy : ((al[j]).toNat : Int) = (blk al.data.toList 0).getD j 0 := by rw [blk_get _ _ _ hlj, byte_at al j hjz]; simp
      have hb1 := (blk_bytes al.data.toList 0).get j
      obtain ⟨x, hx⟩ : ∃ x, x = (wds (blk al.data.toList 0) j).getD (j / 4) 0 := ⟨_, rfl⟩
      have hx0 : 0 ≤ x := by
        rw [hx]
        have : (wds (blk al.data.toList 0) j)[j / 4]'(by rw [wds_length]; omega) ∈ wds (blk al.data.toList 0) j := List.getElem_mem _
        have := (wds_lo (blk al.data.toList 0) j _ this).1
        simpa [wds_length, show j / 4 < 16 by omega] using this
      rw [← hx] at c0
      have HX := Lib.hid hx
      have HY := Lib.hid hy
      have HY1 := Lib.hid hb1
      clear hq hx hy hb1
      go_wp2
      have e4 : IntKind.i64.wrap ((j : Int) / 4) = (j : Int) / 4 := by rw [IntWalk.i64_in _ (by omega)]
      have p4 : (0 : Int) ≤ (j : Int) / 4 := by omega
      have q4 : (j : Int) / 4 < 16 := by omega
      have q64 : (j : Int) < (al.size : Int) := by omega
      have t4 : ((j : Int) / 4).toNat = j / 4 := by omega
      go_still_tail 13, (by kernel_rfl)
      change wpList _ _ _ _ _ wr.drew
      go_wp2
      have e : bits .or .u32 (x * 256 % 4294967296) (((al[j]).toNat : Int) % 4294967296) = (x * 256 + (blk al.data.toList 0).getD j 0) % 4294967296 := by
        rw [show (((al[j]).toNat : Int) % 4294967296) = (blk al.data.toList 0).getD j 0 by have := HY.out; have := HY1.out; omega]
        exact or_byte x _ hx0 HY1.out.1 HY1.out.2
      have E := Lib.hid e
      clear e
      go_roundw
      case rel =>
        refine ⟨j + 1, by omega, by go_num, ?_, ?_⟩
        · refine (set_ua (w := wr) HQ.out).trans ?_
          rw [E.out, HX.out]
          rfl
        · exact (Below.setCell (p := ⟨F, j / 4, none⟩) hbq (Nat.le_refl _) _).drew
      case measure => simp [intOf]; omega
    · have hj64 : j = 64 := by omega
      rw [hj64] at hq
      obtain ⟨X, hX⟩ : ∃ X, X = wds (blk al.data.toList 0) 64 := ⟨_, rfl⟩
      have hXl : X.length = 16 := by rw [hX]; exact wds_length _ _
      rw [← hX] at hq
      obtain ⟨C, hC⟩ : ∃ C, C = compI ii X := ⟨_, rfl⟩
      have hCl : C.length = 8 := by rw [hC]; exact compI_length ii X
      have hst : hstate (t.data.toList ++ padL t.data.toList.length) = C := by
        rw [hC, hX, ← HALD.out]
        exact hstate_one _ (by rw [← Lib.size_eq]; exact HALS.out)
      have hbw : Below w.heap.size w wr := hb3.trans (hbq.mono (by omega))
      have hsw : w.heap.size ≤ wr.heap.size := hbw.size
      have Q := Lib.hid hq
      have XL := Lib.hid hXl
      have CL := Lib.hid hCl
      have HC := Lib.hid hC
      have HST := Lib.hid hst
      clear hq hX hXl hC hCl hst hbq hb3 G0
      go_wp2_with (refine wpList_load_row rfl 23 (.tmp 5) rfl F rfl 23 (ua X) (0, 0) (.array 16 22) Q.out und23 rfl (size23 XL.out) ?_)
      refine (compress_any ii X rfl XL.out wr (HK.out.below hbw (by omega))).mono ?_
      rintro e w6 ⟨rfl, hb6⟩
      rw [← HC.out]
      have hb6' : Below w.heap.size w w6 := hbw.trans (hb6.mono hsw)
      have hs6 : w.heap.size ≤ w6.heap.size := hb6'.size
      clear hbw hb6
      go_wp2_with (refine wpList_store_row rfl 28 (.tmp 7) (.tmp 43) rfl w6.heap.size (ua C) rfl rfl 28 (ua (zs 8)) (heap_alloc_new w6 _) (size28 CL.out) (same_size (show (zs 8).length = C.length by rw [CL.out]; rfl)) (ua_one _) ?_; rw [World.setRow_alloc_new])
      have hb7 : Below w.heap.size w (w6.alloc (.cells (ua C) 28)) := hb6'.alloc hs6 _
      have g7 : (w6.alloc (.cells (ua C) 28)).heap[w6.heap.size]? = some (.cells (ua C) 28 (0, 0)) := heap_alloc_new w6 _
      have hs7 : (w6.alloc (.cells (ua C) 28)).heap.size = w6.heap.size + 1 := by simp
      obtain ⟨w7, hw7⟩ : ∃ w7, w7 = w6.alloc (.cells (ua C) 28) := ⟨_, rfl⟩
      rw [← hw7] at hb7 g7 hs7 ⊢
      rw [← hs7]
      have hb8 : Below w.heap.size w (w7.alloc (.cells #[.string t] 9)) := hb7.alloc (by omega) _
      have g8 : (w7.alloc (.cells #[.string t] 9)).heap[w6.heap.size]? = some (.cells (ua C) 28 (0, 0)) := (Below.heap_alloc w7 _ _ (by omega)).trans g7
      have hs8 : (w7.alloc (.cells #[.string t] 9)).heap.size = w6.heap.size + 2 := by simp; omega
      obtain ⟨w8, hw8⟩ : ∃ w8, w8 = w7.alloc (.cells #[.string t] 9) := ⟨_, rfl⟩
      have hc := one_part w7 w8 t hw8
      rw [← hw8] at hb8 g8 hs8 ⊢
      refine (sum_some t.data.toList [t.data.toList] (by simp) (by rw [HL.out]; omega) w7.heap.size 1 1 rfl w8 (HI.out.below hb8 (by omega)) (HK.out.below hb8 (by omega)) (by omega) hc (by decide)).mono ?_
      rintro e w9 ⟨rfl, hb9⟩
      have g9 := (hb9.block w6.heap.size (by omega)).trans g8
      have hb9' : Below w.heap.size w w9 := hb8.trans (hb9.mono (by omega))
      have hs9 : w6.heap.size < w9.heap.size := by have := hb9.size; omega
      obtain ⟨G, hG⟩ : ∃ G, G = w6.heap.size := ⟨_, rfl⟩
      rw [← hG] at g9 hs9 hs6 ⊢
      obtain ⟨B, hB⟩ : ∃ B, B = sumI t.data.toList := ⟨_, rfl⟩
      rw [← hB]
      have hBl : B.length = 32 := by rw [hB]; exact sumI_length _
      have hBg : ∀ j, j < 32 → B.getD j 0 = C.getD (j / 4) 0 / 2 ^ (24 - 8 * (j % 4)) % 256 := by
        intro j hj
        rw [hB, sumI_get _ j hj, HST.out]
      have BL := Lib.hid hBl
      have BG := Lib.hid hBg
      have K9 := Lib.hid g9
      clear hc hw8 hw7 hs7 hs8 g7 g8 g9 hb6' hb7 hb8 hb9 hG hB hBl hBg Q XL HC HST
      go_wp2_with (refine wpList_store_row rfl 33 (.tmp 8) (.tmp 46) rfl w9.heap.size (ub B) rfl rfl 33 (ub (zs 32)) (heap_alloc_new w9 _) (size33 BL.out) (same_ub (by rw [BL.out]; rfl)) (ub_one _) ?_; rw [World.setRow_alloc_new])
      have g10 : (w9.alloc (.cells (ub B) 33)).heap[w9.heap.size]? = some (.cells (ub B) 33 (0, 0)) := heap_alloc_new w9 _
      have k10 := (Below.heap_alloc w9 (.cells (ub B) 33) G (by omega)).trans K9.out
      have hb10 : Below w.heap.size w (w9.alloc (.cells (ub B) 33)) := hb9'.alloc (by omega) _
      obtain ⟨w10, hw10⟩ : ∃ w10, w10 = w9.alloc (.cells (ub B) 33) := ⟨_, rfl⟩
      obtain ⟨D, hD⟩ : ∃ D, D = w9.heap.size := ⟨_, rfl⟩
      rw [← hw10] at g10 k10 hb10 ⊢
      rw [← hD] at g10 ⊢
      have G10 := Lib.hid g10
      have K10 := Lib.hid k10
      clear g10 k10 hw10 hD hb9' K9
      go_loopw [9] (fun i wq => ∃ j : Nat, j ≤ 32 ∧ i = .int .i64 j ∧ wq.heap = w10.heap ∧ Below w.heap.size w wq) (fun i _ => 32 - (intOf i).toNat)
      case atStart => exact ⟨0, by omega, rfl, rfl, hb10⟩
      case round =>
        obtain ⟨j, hj, rfl, hq, hbq⟩ := hrel
        by_cases hlj : j < 32
        · have cD := cell_ub (w := wr) (by rw [hq]; exact G10.out) j (by rw [BL.out]; exact hlj)
          have cG := cell_ua (w := wr) (by rw [hq]; exact K10.out) (j / 4) (by rw [CL.out]; omega)
          have hbg := BG.out j hlj
          rw [hbg] at cD
          obtain ⟨x, hx⟩ : ∃ x, x = C.getD (j / 4) 0 := ⟨_, rfl⟩
          rw [← hx] at cD cG
          have HQ := Lib.hid hq
          clear hbg hx hq
          go_wp2
          have e4 : IntKind.i64.wrap ((j : Int) / 4) = (j : Int) / 4 := by rw [IntWalk.i64_in _ (by omega)]
          have p4 : (0 : Int) ≤ (j : Int) / 4 := by omega
          have q4 : (j : Int) / 4 < 8 := by omega
          have q64 : (j : Int) < 32 := by omega
          have t4 : ((j : Int) / 4).toNat = j / 4 := by omega
          have hne : (x / 2 ^ (24 - 8 * (j % 4)) % 256 != x / 2 ^ min (24 - 8 * (j % 4)) 32 % 256) = false := by
            rw [Nat.min_eq_left (by omega)]; simp
          go_still_tail 14, (by kernel_rfl)
          change wpList _ _ _ _ _ wr.drew
          go_wp2
          go_roundw
          case rel => exact ⟨j + 1, by omega, by go_num, HQ.out, hbq.drew⟩
          case measure => simp [intOf]; omega
        · go_wp2
          go_ret
          exact ⟨rfl, hbq⟩
theorem lawBlock_any (s : ByteArray) (w : World) (hI : InitIn w) (hK : KeysIn w) :
    Calls Tryd.prog 8 #[.string s] w fun e w' => e = .returned (.bool true) ∧ Below w.heap.size w w' := by
  by_cases h : s.size ≤ 55
  · exact lawBlock_short s w hI hK h
  · exact lawBlock_long s w hI hK (by omega)
end Go.Proofs.YtiagngggnhdefaaDoor
