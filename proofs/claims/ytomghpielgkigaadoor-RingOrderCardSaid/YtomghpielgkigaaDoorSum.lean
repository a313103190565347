/-
  What sha.Sum hands back, for any parts of no more than a million bytes in all, where the two tables hold their numbers: the hash of the parts put together; no older memory is changed.
-/
import Derived.Test.YtomghpielgkigaaDoorSumMath
import Derived.Test.YtomghpielgkigaaDoorAdd
import Derived.Test.YtomghpielgkigaaDoorPad
import Derived.Great.BuildSlice
namespace Go.Proofs.YtomghpielgkigaaDoor
open Go.RowKit

def tot (ps : List (List UInt8)) (k : Nat) : Nat := (ps.take k).flatten.length
theorem hl_one (S B : List Int) (u : Int) : (hl S B u).toArray.all (·.oneCell') = true := by
  rw [Array.all_eq_true_iff_forall_mem]
  intro v hv
  have hv' : v ∈ hl S B u := by simpa using hv
  simp only [hl, List.mem_append, List.mem_map, List.mem_singleton] at hv'
  rcases hv' with (⟨_, _, rfl⟩ | ⟨_, _, rfl⟩) | rfl <;> rfl

set_option maxRecDepth 100000 in
set_option maxHeartbeats 3200000 in
theorem sum_some (ms : List UInt8) (ps : List (List UInt8)) (hps : ps.flatten = ms) (hlen : ms.length ≤ 140737488355328) (b n cap : Nat) (hn : n = ps.length) (w : World) (hI : InitIn w) (hK : KeysIn w) (hbl : b < w.heap.size) (hp : ∀ k, k < ps.length → w.cell? ⟨b, k, none⟩ = some (str (ps.getD k []))) (hnn : n ≤ 140737488355328) :
    Calls Tryd.prog 35 #[.slice (some ⟨b, 0, none⟩) n cap] w fun e w' => e = .returned (.agg (ub (sumI ms))) ∧ Below w.heap.size w w' := by
  have hI' := hI
  obtain ⟨t1, fr1, hi⟩ := hI
  have h1 : 1 < w.heap.size := hK.pos
  have HI := Lib.hid hi
  have HK := Lib.hid hK
  have HPS := Lib.hid hps
  have HN := Lib.hid hn
  have HP := Lib.hid hp
  clear hn hp
  obtain ⟨zv, z52⟩ := zero_of_info info52
  have Z52 := Lib.hid z52
  clear hi hK hps hI' z52
  go_enter Tryd.func35, Tryd.ntmps35
  go_wp2_with (first
    | (refine wpList_load_row rfl 79 (.global 0) rfl 0 rfl t1 (ua ii) fr1 (.array 8 78) ((Below.heap_alloc _ _ _ (by omega)).trans HI.out) und28 rfl (size28 rfl) ?_)
    | (refine wpList_buildTo rfl 82 #[(0, .tmp 9)] rfl (some 10) rfl (hl ii (zs 64) 0).toArray (by kernel_rfl) ?_)
    | (refine wpList_store_row rfl 82 (.tmp 3) (.tmp 10) rfl (w.heap.size + 1) (hl ii (zs 64) 0).toArray rfl rfl 82 (hl (zs 8) (zs 64) 0).toArray (heap_alloc2' w _ _) Z52.out (by kernel_rfl) (hl_one _ _ _) ?_; rw [setRow_alloc2]))
  clear zv
  obtain ⟨w2, hw2, g0, g1, gs, hb2⟩ := two_w w (ub (zs 32)) (hl ii (zs 64) 0).toArray 68 82
  change Code.wp _ _ _ _ ((w.alloc (.cells (ub (zs 32)) 68)).alloc (.cells (hl ii (zs 64) 0).toArray 82))
  rw [← hw2]
  have G0 := Lib.hid g0
  have GI := Lib.hid (inH_nil g1)
  have GS := Lib.hid gs
  have HK2 := Lib.hid (HK.out.below hb2 (by omega))
  clear hw2 g0 g1 gs
  go_loopw [4, 13] (fun z i wr => ∃ k : Nat, k ≤ n ∧ i = .int .i64 k ∧ z = .int .i64 (tot ps k : Nat) ∧ InH wr (w.heap.size + 1) (ps.take k).flatten ∧ w2.grownBy wr (some (w.heap.size + 1))) (fun _ i _ => n - (intOf i).toNat)
  case atStart => exact ⟨0, by omega, rfl, rfl, GI.out, ⟨rfl, rfl, rfl, Nat.le_refl _, fun _ _ _ => rfl⟩⟩
  case round =>
    obtain ⟨k, hk, rfl, rfl, hin, hgr⟩ := hrel
    by_cases hlt : k < n
    · have hkl : k < ps.length := by rw [← HN.out]; exact hlt
      have cp : wr.cell? ⟨b, k, none⟩ = some (str (ps.getD k [])) := (World.cell?_of_block (w := w2) (hgr.block b (by have := GS.out; omega) (by simp; omega))).trans ((hb2.cell hbl).trans (HP.out k hkl))
      have hsum : (ps.take (k + 1)).flatten = (ps.take k).flatten ++ ps.getD k [] := by
        have hgd : ps.getD k [] = ps[k] := by simp [hkl]
        rw [List.take_succ_eq_append_getElem hkl, List.flatten_append, List.flatten_singleton, hgd]
      have hle : tot ps (k + 1) ≤ ms.length := by
        have := congrArg (fun l => l.flatten.length) (List.take_append_drop (k + 1) ps)
        simp only [List.flatten_append, List.length_append, HPS.out] at this
        unfold tot
        omega
      obtain ⟨p, hp⟩ : ∃ p, p = ps.getD k [] := ⟨_, rfl⟩
      rw [← hp] at cp hsum
      have hl1 : tot ps (k + 1) = tot ps k + p.length := by unfold tot; rw [hsum, List.length_append]
      have hpz : (⟨p.toArray⟩ : ByteArray).size = p.length := by rw [Lib.size_eq]
      have hpb : tot ps k + p.length ≤ 140737488355328 := by omega
      have HKr := Lib.hid (show KeysIn wr from fun j hj => (World.cell?_of_block (w := w2) (hgr.block 1 (by have := GS.out; omega) (by intro e; have := HK.out.pos; injection e with e; omega))).trans (HK2.out j hj))
      have HIN := Lib.hid hin
      have HSUM := Lib.hid hsum
      have HL1 := Lib.hid hl1
      have HPZ := Lib.hid hpz
      unfold str at cp
      clear hin hsum hl1 hp hpz hle
      go_wp2_with fail
      refine (add_any (w.heap.size + 1) (ps.take k).flatten ⟨p.toArray⟩ wr HKr.out (by omega) HIN.out (by rw [HPZ.out]; omega)).mono ?_
      rintro e wa ⟨rfl, hina, hga⟩
      have hina' : InH wa (w.heap.size + 1) (ps.take (k + 1)).flatten := by rw [HSUM.out]; exact hina
      have HA := Lib.hid hina'
      have hgra : w2.grownBy wa (some (w.heap.size + 1)) := ⟨hga.os.trans hgr.os, hga.tape.trans hgr.tape, hga.output.trans hgr.output, Nat.le_trans hgr.size hga.size, fun i hi hne => (hga.block i (Nat.lt_of_lt_of_le hi hgr.size) hne).trans (hgr.block i hi hne)⟩
      clear hina hina' hga hgr cp
      go_wp2
      go_roundw
      case rel => exact ⟨k + 1, by omega, by go_num, by rw [HL1.out]; go_num, HA.out, hgra⟩
      case measure => simp [intOf]; omega
    · have hkn : k = n := by omega
      have htk : (ps.take k).flatten = ms := by rw [hkn, HN.out, List.take_length, HPS.out]
      have htot : tot ps k = ms.length := by unfold tot; rw [htk]
      rw [htk] at hin
      rw [htot]
      have HIN := Lib.hid hin
      have HKr := Lib.hid (show KeysIn wr from fun j hj => (World.cell?_of_block (w := w2) (hgr.block 1 (by have := GS.out; omega) (by intro e; have := HK.out.pos; injection e with e; omega))).trans (HK2.out j hj))
      have hb0 : Below w.heap.size w wr := hb2.trans ⟨hgr.os, hgr.tape, hgr.output, hgr.size, fun i hi => hgr.block i (by have := GS.out; omega) (by simp; omega)⟩
      have k0 := (hgr.block w.heap.size (by have := GS.out; omega) (by simp)).trans G0.out
      have K0 := Lib.hid k0
      have hsz : w.heap.size + 2 ≤ wr.heap.size := by have := hgr.size; have := GS.out; omega
      clear hin hgr hkn k0 htk htot hb2
      go_wp2_with fail
      refine (pad_mid ms.length wr (by omega)).mono ?_
      rintro e wp ⟨rfl, hbp⟩
      have hinp : InH wp (w.heap.size + 1) ms := by
        obtain ⟨B, h1, h2, h3, h4⟩ := HIN.out
        exact ⟨B, h1, h2, h3, (hbp.block _ (by omega)).trans h4⟩
      have hKp : KeysIn wp := HKr.out.below hbp (by omega)
      have k0 := (hbp.block w.heap.size (by omega)).trans K0.out
      have hb1 : Below w.heap.size w wp := hb0.trans (hbp.mono (by omega))
      have hszp : w.heap.size + 2 ≤ wp.heap.size := Nat.le_trans hsz hbp.size
      have HINp := Lib.hid hinp
      have HKp := Lib.hid hKp
      have K0p := Lib.hid k0
      clear hinp hKp k0 hbp hb0 K0 HIN
      go_wp2_with fail
      have hpl : (⟨(padL ms.length).toArray⟩ : ByteArray).size ≤ 140737488355328 := by
        have := padZ_lt ms.length
        have h2 := padL_length ms.length
        rw [Lib.size_eq]
        show (padL ms.length).length ≤ 140737488355328
        omega
      refine (add_any (w.heap.size + 1) ms ⟨(padL ms.length).toArray⟩ wp HKp.out (by omega) HINp.out hpl).mono ?_
      rintro e wa ⟨rfl, ⟨B, a1, a2, a3, ha⟩, hga⟩
      have k0 := (hga.block w.heap.size (by omega) (by simp)).trans K0p.out
      have hba : Below w.heap.size w wa := hb1.trans ⟨hga.os, hga.tape, hga.output, hga.size, fun i hi => hga.block i (by omega) (by simp; omega)⟩
      have hsza : w.heap.size + 2 ≤ wa.heap.size := Nat.le_trans hszp hga.size
      obtain ⟨S, hS⟩ : ∃ S, S = hstate (ms ++ padL ms.length) := ⟨_, rfl⟩
      have hSl : S.length = 8 := by rw [hS]; exact hstate_length _
      have hcS : ∀ j, j < 8 → wa.cell? ⟨w.heap.size + 1, j, none⟩ = some (.int .u32 (S.getD j 0)) := by
        intro j hj
        rw [cell_of_row wa _ j _ _ _ ha, List.getElem?_toArray]
        have e2 := hl_range_S (hstate (ms ++ (⟨(padL ms.length).toArray⟩ : ByteArray).data.toList)) B (((ms ++ (⟨(padL ms.length).toArray⟩ : ByteArray).data.toList).length % 64 : Nat) : Int) j (.int .u32 (S.getD j 0)) (by rw [hS]; show (List.map _ (hstate (ms ++ padL ms.length)))[j]? = _; rw [← hS]; simp [hSl, hj])
        rw [Nat.zero_add] at e2
        exact e2
      have HCS := Lib.hid hcS
      have HS := Lib.hid hS
      have K0a := Lib.hid k0
      clear k0 ha hga hcS hS hb1 K0p HINp HKp a1 a2 a3 hSl hpl
      go_wp2
      have hw5 : (wa.alloc (.cells (ub (zs 32)) 68)).heap[wa.heap.size]? = some (.cells (ub (outB S 0)) 68 (0, 0)) := by rw [outB_zero]; exact heap_alloc_new wa _
      have k5 := (Below.heap_alloc wa (.cells (ub (zs 32)) 68) w.heap.size (by omega)).trans K0a.out
      have hc5 : ∀ j, j < 8 → (wa.alloc (.cells (ub (zs 32)) 68)).cell? ⟨w.heap.size + 1, j, none⟩ = some (.int .u32 (S.getD j 0)) := fun j hj => (World.cell?_alloc_lt wa _ ⟨w.heap.size + 1, j, none⟩ (show w.heap.size + 1 < wa.heap.size by omega)).trans (HCS.out j hj)
      have hb5 : Below w.heap.size w (wa.alloc (.cells (ub (zs 32)) 68)) := hba.alloc (by omega) _
      change Code.wp _ _ _ _ (wa.alloc (.cells (ub (zs 32)) 68))
      obtain ⟨w5, hw5e⟩ : ∃ w5, w5 = wa.alloc (.cells (ub (zs 32)) 68) := ⟨_, rfl⟩
      obtain ⟨g, hg⟩ : ∃ g, g = wa.heap.size := ⟨_, rfl⟩
      rw [← hw5e] at hw5 k5 hc5 hb5 ⊢
      rw [← hg] at hw5 hsza ⊢
      have W5 := Lib.hid hw5
      have K5 := Lib.hid k5
      have C5 := Lib.hid hc5
      clear hw5 k5 hc5 hw5e hg hba K0a HCS
      go_loopw [27] (fun i wq => ∃ j : Nat, j ≤ 32 ∧ i = .int .i64 j ∧ wq.heap[g]? = some (.cells (ub (outB S j)) 68 (0, 0)) ∧ Below g w5 wq) (fun i _ => 32 - (intOf i).toNat)
      case atStart => exact ⟨0, by omega, rfl, W5.out, Below.refl _ _⟩
      case round =>
        obtain ⟨j, hj, rfl, hq, hbq⟩ := hrel
        by_cases hlt : j < 32
        · have c0 := cell_ub hq j (by rw [outB_length]; exact hlt)
          have f0 := frozen_of_row _ _ j _ _ hq
          have cS : wr.cell? ⟨w.heap.size + 1, j / 4, none⟩ = some (.int .u32 (S.getD (j / 4) 0)) := (hbq.cell (show w.heap.size + 1 < g by omega)).trans (C5.out (j / 4) (by omega))
          have HQ := Lib.hid hq
          clear hq
          go_wp2
          go_roundw
          case rel =>
            refine ⟨j + 1, by omega, by go_num, ?_, hbq.setCell (Nat.le_refl _) _⟩
            refine (set_ub HQ.out).trans ?_
            rw [← outB_set]
            rfl
          case measure => simp [intOf]; omega
        · have hj32 : j = 32 := by omega
          rw [hj32] at hq
          have e1 : outB S 32 = sumI ms := by rw [HS.out]; rfl
          rw [e1] at hq
          have HQ := Lib.hid hq
          have hr := (hbq.block w.heap.size (by omega)).trans K5.out
          have HR := Lib.hid hr
          clear hq hj32 e1 hr
          go_wp2_with (first
            | (refine wpList_load_row rfl 68 (.tmp 7) rfl g rfl 68 (ub (sumI ms)) (0, 0) (.array 32 5) HQ.out und33 rfl (size33 (sumI_length ms)) ?_)
            | (refine wpList_store_row rfl 68 (.tmp 2) (.tmp 44) rfl w.heap.size (ub (sumI ms)) rfl rfl 68 (ub (zs 32)) HR.out (size33 (sumI_length ms)) (same_ub (by rw [sumI_length]; rfl)) (ub_one _) ?_))
          refine bodyPost_ret (v := .agg (ub (sumI ms))) (results_cell_row rfl _ _ w.heap.size 68 (ub (sumI ms)) (0, 0) (.array 32 5) rfl (setRow_heap wr _ _ _ _ _ HR.out) und33 rfl (size33 (sumI_length ms))) rfl ⟨rfl, ?_⟩
          exact below_setRow (hb5.trans (hbq.mono (by omega))) (Nat.le_refl _) _

set_option maxRecDepth 100000 in
set_option maxHeartbeats 3200000 in
theorem sum_nil (ms : List UInt8) (ps : List (List UInt8)) (hps : ps.flatten = ms) (hlen : ms.length ≤ 140737488355328) (n : Nat) (hn : n = ps.length) (hn0 : n = 0) (w : World) (hI : InitIn w) (hK : KeysIn w) :
    Calls Tryd.prog 35 #[.slice none n n] w fun e w' => e = .returned (.agg (ub (sumI ms))) ∧ Below w.heap.size w w' := by
  have hI' := hI
  obtain ⟨t1, fr1, hi⟩ := hI
  have h1 : 1 < w.heap.size := hK.pos
  have HI := Lib.hid hi
  have HK := Lib.hid hK
  have HPS := Lib.hid hps
  have HN := Lib.hid hn
  have HN0 := Lib.hid hn0
  clear hn hn0
  obtain ⟨zv, z52⟩ := zero_of_info info52
  have Z52 := Lib.hid z52
  clear hi hK hps hI' z52
  go_enter Tryd.func35, Tryd.ntmps35
  go_wp2_with (first
    | (refine wpList_load_row rfl 79 (.global 0) rfl 0 rfl t1 (ua ii) fr1 (.array 8 78) ((Below.heap_alloc _ _ _ (by omega)).trans HI.out) und28 rfl (size28 rfl) ?_)
    | (refine wpList_buildTo rfl 82 #[(0, .tmp 9)] rfl (some 10) rfl (hl ii (zs 64) 0).toArray (by kernel_rfl) ?_)
    | (refine wpList_store_row rfl 82 (.tmp 3) (.tmp 10) rfl (w.heap.size + 1) (hl ii (zs 64) 0).toArray rfl rfl 82 (hl (zs 8) (zs 64) 0).toArray (heap_alloc2' w _ _) Z52.out (by kernel_rfl) (hl_one _ _ _) ?_; rw [setRow_alloc2]))
  clear zv
  obtain ⟨w2, hw2, g0, g1, gs, hb2⟩ := two_w w (ub (zs 32)) (hl ii (zs 64) 0).toArray 68 82
  change Code.wp _ _ _ _ ((w.alloc (.cells (ub (zs 32)) 68)).alloc (.cells (hl ii (zs 64) 0).toArray 82))
  rw [← hw2]
  have G0 := Lib.hid g0
  have GI := Lib.hid (inH_nil g1)
  have GS := Lib.hid gs
  have HK2 := Lib.hid (HK.out.below hb2 (by omega))
  clear hw2 g0 g1 gs
  go_loopw [4, 13] (fun z i wr => ∃ k : Nat, k ≤ n ∧ i = .int .i64 k ∧ z = .int .i64 (tot ps k : Nat) ∧ InH wr (w.heap.size + 1) (ps.take k).flatten ∧ w2.grownBy wr (some (w.heap.size + 1))) (fun _ i _ => n - (intOf i).toNat)
  case atStart => exact ⟨0, by omega, rfl, rfl, GI.out, ⟨rfl, rfl, rfl, Nat.le_refl _, fun _ _ _ => rfl⟩⟩
  case round =>
    obtain ⟨k, hk, rfl, rfl, hin, hgr⟩ := hrel
    by_cases hlt : k < n
    · exact absurd hlt (by have := HN0.out; omega)
    · have hkn : k = n := by omega
      have htk : (ps.take k).flatten = ms := by rw [hkn, HN.out, List.take_length, HPS.out]
      have htot : tot ps k = ms.length := by unfold tot; rw [htk]
      rw [htk] at hin
      rw [htot]
      have HIN := Lib.hid hin
      have HKr := Lib.hid (show KeysIn wr from fun j hj => (World.cell?_of_block (w := w2) (hgr.block 1 (by have := GS.out; omega) (by intro e; have := HK.out.pos; injection e with e; omega))).trans (HK2.out j hj))
      have hb0 : Below w.heap.size w wr := hb2.trans ⟨hgr.os, hgr.tape, hgr.output, hgr.size, fun i hi => hgr.block i (by have := GS.out; omega) (by simp; omega)⟩
      have k0 := (hgr.block w.heap.size (by have := GS.out; omega) (by simp)).trans G0.out
      have K0 := Lib.hid k0
      have hsz : w.heap.size + 2 ≤ wr.heap.size := by have := hgr.size; have := GS.out; omega
      clear hin hgr hkn k0 htk htot hb2
      go_wp2_with fail
      refine (pad_mid ms.length wr (by omega)).mono ?_
      rintro e wp ⟨rfl, hbp⟩
      have hinp : InH wp (w.heap.size + 1) ms := by
        obtain ⟨B, h1, h2, h3, h4⟩ := HIN.out
        exact ⟨B, h1, h2, h3, (hbp.block _ (by omega)).trans h4⟩
      have hKp : KeysIn wp := HKr.out.below hbp (by omega)
      have k0 := (hbp.block w.heap.size (by omega)).trans K0.out
      have hb1 : Below w.heap.size w wp := hb0.trans (hbp.mono (by omega))
      have hszp : w.heap.size + 2 ≤ wp.heap.size := Nat.le_trans hsz hbp.size
      have HINp := Lib.hid hinp
      have HKp := Lib.hid hKp
      have K0p := Lib.hid k0
      clear hinp hKp k0 hbp hb0 K0 HIN
      go_wp2_with fail
      have hpl : (⟨(padL ms.length).toArray⟩ : ByteArray).size ≤ 140737488355328 := by
        have := padZ_lt ms.length
        have h2 := padL_length ms.length
        rw [Lib.size_eq]
        show (padL ms.length).length ≤ 140737488355328
        omega
      refine (add_any (w.heap.size + 1) ms ⟨(padL ms.length).toArray⟩ wp HKp.out (by omega) HINp.out hpl).mono ?_
      rintro e wa ⟨rfl, ⟨B, a1, a2, a3, ha⟩, hga⟩
      have k0 := (hga.block w.heap.size (by omega) (by simp)).trans K0p.out
      have hba : Below w.heap.size w wa := hb1.trans ⟨hga.os, hga.tape, hga.output, hga.size, fun i hi => hga.block i (by omega) (by simp; omega)⟩
      have hsza : w.heap.size + 2 ≤ wa.heap.size := Nat.le_trans hszp hga.size
      obtain ⟨S, hS⟩ : ∃ S, S = hstate (ms ++ padL ms.length) := ⟨_, rfl⟩
      have hSl : S.length = 8 := by rw [hS]; exact hstate_length _
      have hcS : ∀ j, j < 8 → wa.cell? ⟨w.heap.size + 1, j, none⟩ = some (.int .u32 (S.getD j 0)) := by
        intro j hj
        rw [cell_of_row wa _ j _ _ _ ha, List.getElem?_toArray]
        have e2 := hl_range_S (hstate (ms ++ (⟨(padL ms.length).toArray⟩ : ByteArray).data.toList)) B (((ms ++ (⟨(padL ms.length).toArray⟩ : ByteArray).data.toList).length % 64 : Nat) : Int) j (.int .u32 (S.getD j 0)) (by rw [hS]; show (List.map _ (hstate (ms ++ padL ms.length)))[j]? = _; rw [← hS]; simp [hSl, hj])
        rw [Nat.zero_add] at e2
        exact e2
      have HCS := Lib.hid hcS
      have HS := Lib.hid hS
      have K0a := Lib.hid k0
      clear k0 ha hga hcS hS hb1 K0p HINp HKp a1 a2 a3 hSl hpl
      go_wp2
      have hw5 : (wa.alloc (.cells (ub (zs 32)) 68)).heap[wa.heap.size]? = some (.cells (ub (outB S 0)) 68 (0, 0)) := by rw [outB_zero]; exact heap_alloc_new wa _
      have k5 := (Below.heap_alloc wa (.cells (ub (zs 32)) 68) w.heap.size (by omega)).trans K0a.out
      have hc5 : ∀ j, j < 8 → (wa.alloc (.cells (ub (zs 32)) 68)).cell? ⟨w.heap.size + 1, j, none⟩ = some (.int .u32 (S.getD j 0)) := fun j hj => (World.cell?_alloc_lt wa _ ⟨w.heap.size + 1, j, none⟩ (show w.heap.size + 1 < wa.heap.size by omega)).trans (HCS.out j hj)
      have hb5 : Below w.heap.size w (wa.alloc (.cells (ub (zs 32)) 68)) := hba.alloc (by omega) _
      change Code.wp _ _ _ _ (wa.alloc (.cells (ub (zs 32)) 68))
      obtain ⟨w5, hw5e⟩ : ∃ w5, w5 = wa.alloc (.cells (ub (zs 32)) 68) := ⟨_, rfl⟩
      obtain ⟨g, hg⟩ : ∃ g, g = wa.heap.size := ⟨_, rfl⟩
      rw [← hw5e] at hw5 k5 hc5 hb5 ⊢
      rw [← hg] at hw5 hsza ⊢
      have W5 := Lib.hid hw5
      have K5 := Lib.hid k5
      have C5 := Lib.hid hc5
      clear hw5 k5 hc5 hw5e hg hba K0a HCS
      go_loopw [27] (fun i wq => ∃ j : Nat, j ≤ 32 ∧ i = .int .i64 j ∧ wq.heap[g]? = some (.cells (ub (outB S j)) 68 (0, 0)) ∧ Below g w5 wq) (fun i _ => 32 - (intOf i).toNat)
      case atStart => exact ⟨0, by omega, rfl, W5.out, Below.refl _ _⟩
      case round =>
        obtain ⟨j, hj, rfl, hq, hbq⟩ := hrel
        by_cases hlt : j < 32
        · have c0 := cell_ub hq j (by rw [outB_length]; exact hlt)
          have f0 := frozen_of_row _ _ j _ _ hq
          have cS : wr.cell? ⟨w.heap.size + 1, j / 4, none⟩ = some (.int .u32 (S.getD (j / 4) 0)) := (hbq.cell (show w.heap.size + 1 < g by omega)).trans (C5.out (j / 4) (by omega))
          have HQ := Lib.hid hq
          clear hq
          go_wp2
          go_roundw
          case rel =>
            refine ⟨j + 1, by omega, by go_num, ?_, hbq.setCell (Nat.le_refl _) _⟩
            refine (set_ub HQ.out).trans ?_
            rw [← outB_set]
            rfl
          case measure => simp [intOf]; omega
        · have hj32 : j = 32 := by omega
          rw [hj32] at hq
          have e1 : outB S 32 = sumI ms := by rw [HS.out]; rfl
          rw [e1] at hq
          have HQ := Lib.hid hq
          have hr := (hbq.block w.heap.size (by omega)).trans K5.out
          have HR := Lib.hid hr
          clear hq hj32 e1 hr
          go_wp2_with (first
            | (refine wpList_load_row rfl 68 (.tmp 7) rfl g rfl 68 (ub (sumI ms)) (0, 0) (.array 32 5) HQ.out und33 rfl (size33 (sumI_length ms)) ?_)
            | (refine wpList_store_row rfl 68 (.tmp 2) (.tmp 44) rfl w.heap.size (ub (sumI ms)) rfl rfl 68 (ub (zs 32)) HR.out (size33 (sumI_length ms)) (same_ub (by rw [sumI_length]; rfl)) (ub_one _) ?_))
          refine bodyPost_ret (v := .agg (ub (sumI ms))) (results_cell_row rfl _ _ w.heap.size 68 (ub (sumI ms)) (0, 0) (.array 32 5) rfl (setRow_heap wr _ _ _ _ _ HR.out) und33 rfl (size33 (sumI_length ms))) rfl ⟨rfl, ?_⟩
          exact below_setRow (hb5.trans (hbq.mono (by omega))) (Nat.le_refl _) _
end Go.Proofs.YtomghpielgkigaaDoor
