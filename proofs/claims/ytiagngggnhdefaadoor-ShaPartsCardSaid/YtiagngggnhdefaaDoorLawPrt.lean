/-
  The walk of the law ShaParts: for every parts it returns true, where the two tables hold their numbers; no older memory is changed.
-/
import Derived.Test.YtiagngggnhdefaaDoorPartsKit
import Derived.Deep.RegionHeld3
namespace Go.Proofs.YtiagngggnhdefaaDoor
open Go.RowKit

set_option maxRecDepth 100000 in
set_option maxHeartbeats 3200000 in
theorem parts_zero (p : Option Addr) (n cap : Nat) (ss : Nat → ByteArray) (w : World) (hI : InitIn w) (hK : KeysIn w) (hn0 : n = 0) :
    Calls Tryd.prog 7 #[.slice p n cap] w fun e w' => e = .returned (.bool true) ∧ Below w.heap.size w w' := by
  have hp := hI.pos
  have HI := Lib.hid hI
  have HK := Lib.hid hK
  clear hI hK
  have hn : n ≤ 12 := by omega
  obtain ⟨i0, hi, hz0, hz1, hz2⟩ := info_parts info9
  go_enter Tryd.func7, Tryd.ntmps7
  go_wp2_with fail
  refine (awake_any w HI.out HK.out).mono ?_
  rintro e w1 ⟨rfl, hb1⟩
  go_wp2_with fail
  go_loopw [4, 5, 6] (fun v s i wr => ∃ k : Nat, k ≤ n ∧ i = .int .i64 k ∧ (∃ al : ByteArray, s = .string al ∧ al.data.toList = (cuts ss k).flatten) ∧ wr.ownsRow w.heap.size 9 1 v k ((cuts ss k).map str) ∧ Below w.heap.size w wr) (fun _ _ i _ => n - (intOf i).toNat)
  case atStart => exact ⟨0, by omega, rfl, ⟨⟨#[]⟩, rfl, rfl⟩, World.ownsRow_nil _ _ _ _, hb1⟩
  case round =>
    obtain ⟨k, hk, rfl, ⟨al, rfl, hal⟩, hown, hb⟩ := hrel
    have HAL := Lib.hid hal
    have HOWN := Lib.hid hown
    clear hal hown
    by_cases hlt : k < n
    · omega
    · have hkn : k = n := by omega
      have q1 : decide ((k : Int) < (n : Int)) = false := by simp; omega
      obtain ⟨ms, hms⟩ : ∃ ms, ms = (cuts ss k).flatten := ⟨_, rfl⟩
      have hml : ms.length ≤ 1000000 := by have := cuts_size ss k; rw [hms]; omega
      have ham : al.data.toList = ms := by rw [hms]; exact HAL.out
      have hsw : w.heap.size ≤ wr.heap.size := hb.size
      have HMS := Lib.hid hms
      have HML := Lib.hid hml
      have HAM := Lib.hid ham
      clear hms ham hml HAL
      go_wp2_with fail
      refine (sum_own HOWN.out (cuts_length ss k) (by rw [← HMS.out]; exact HML.out) (HI.out.below hb (by omega)) (HK.out.below hb (by omega)) (by omega)).mono ?_
      rintro e w3 ⟨rfl, hb3⟩
      rw [← HMS.out]
      have own3 := own_below HOWN.out hb3
      have hb3' : Below w.heap.size w w3 := hb.trans (hb3.mono hsw)
      have hs3 : w.heap.size ≤ w3.heap.size := hb3'.size
      obtain ⟨B, hB⟩ : ∃ B, B = sumI ms := ⟨_, rfl⟩
      rw [← hB]
      have hBl : B.length = 32 := by rw [hB]; exact sumI_length _
      have hBb : IsBytes B := by rw [hB]; exact sumI_bytes _
      have HOWN3 := Lib.hid own3
      have HB := Lib.hid hB
      have BL := Lib.hid hBl
      have BB := Lib.hid hBb
      clear own3 hB hBl hBb hb hb3 HOWN
      go_wp2_with (refine wpList_store_row rfl 33 (.tmp 8) (.tmp 39) rfl w3.heap.size (ub B) rfl rfl 33 (ub (zs 32)) (heap_alloc_new w3 _) (size33 BL.out) (same_ub (by rw [BL.out]; rfl)) (ub_one _) ?_; rw [World.setRow_alloc_new])
      have g4 : (w3.alloc (.cells (ub B) 33)).heap[w3.heap.size]? = some (.cells (ub B) 33 (0, 0)) := heap_alloc_new w3 _
      have own4 := HOWN3.out.alloc (.cells (ub B) 33)
      have hb4 : Below w.heap.size w (w3.alloc (.cells (ub B) 33)) := hb3'.alloc hs3 _
      have hs4 : (w3.alloc (.cells (ub B) 33)).heap.size = w3.heap.size + 1 := by simp
      obtain ⟨w4, hw4⟩ : ∃ w4, w4 = w3.alloc (.cells (ub B) 33) := ⟨_, rfl⟩
      obtain ⟨D, hD⟩ : ∃ D, D = w3.heap.size := ⟨_, rfl⟩
      rw [← hw4] at g4 own4 hb4 hs4 ⊢
      rw [← hD] at g4 hs4 hs3 ⊢
      refine (point_any _ ms w4 (by have hh := sum_own own4 (cuts_length ss k) (by rw [← HMS.out]; exact HML.out) (HI.out.below hb4 (by omega)) (HK.out.below hb4 (by omega)) (by omega); rw [← HMS.out] at hh; exact hh)).mono ?_
      rintro e w5 ⟨rfl, hb5⟩
      have g5 := (hb5.block D (by omega)).trans g4
      have hb5' : Below w.heap.size w w5 := hb4.trans (hb5.mono (by omega))
      have hs5 : D < w5.heap.size := by have := hb5.size; omega
      obtain ⟨p, hpn⟩ : ∃ p, p = pntI ms := ⟨_, rfl⟩
      rw [← hpn]
      have hpb : ∀ j, j < 8 → p / 2 ^ (56 - 8 * j) % 256 = B.getD j 0 := by
        intro j hj
        rw [hpn, pntI, ← HB.out]
        exact pnt_byte B BB.out j hj
      have G5 := Lib.hid g5
      have HP := Lib.hid hpn
      have HPB := Lib.hid hpb
      clear g4 own4 hb4 hs4 hw4 hD hb3' hb5 g5 hpn hpb HOWN3
      go_wp2_with fail
      go_loop [10] (fun i => ∃ j : Nat, j ≤ 8 ∧ i = .int .i64 j) (fun i => 8 - (intOf i).toNat)
      case atStart => exact ⟨0, by omega, rfl⟩
      case round =>
        obtain ⟨j, hj, rfl⟩ := hrel
        by_cases hlj : j < 8
        · have cD := cell_ub G5.out j (by rw [BL.out]; omega)
          have hpj := HPB.out j hlj
          rw [← hpj] at cD
          have hne : (p / 2 ^ (56 - 8 * j) % 256 != p / 2 ^ min (56 - 8 * j) 64 % 256) = false := by
            rw [Nat.min_eq_left (by omega)]; simp
          clear hpj
          go_wp2
          go_round
          case rel => exact ⟨j + 1, by omega, by go_num⟩
          case measure => simp [intOf]; omega
        · go_wp2
          have q33 : ∀ w, (Op.equalIn 10000 33 (.agg (List.map (Value.int .u8) B).toArray) (.agg (ub B))).run Tryd.prog w = .ok true w := fun w => eq33 B BL.out w
          have g33 := gt33
          have s32 : (Tryd.prog.info? 33).map (·.size) = some (B.map (Value.int .u8)).length := by rw [info33]; simp [BL.out]
          have R5 : w5.rangeAt D 0 (B.map (Value.int .u8)) := by
            intro i v hv
            rw [Nat.zero_add, cell_of_row w5 D i _ _ _ G5.out]
            simpa [ub] using hv
          have HR5 := Lib.hid R5
          clear R5 hp hlj hj
          refine wp_region_held_drew (S := fun w' => w'.rangeAt D 0 (B.map (Value.int .u8))) (by kernel_rfl) HR5.out (fun hS0 => ?_)
          refine wpAnyH_take (i := 0) (v := .bool true) rfl (by kernel_rfl) (by kernel_rfl) (by kernel_rfl) (fun _ _ _ h => h) (Or.inl ⟨by rfl, by intro w _; go_simp⟩) hS0 ?_
          refine wpAnyH_take (i := 1) (v := .bool true) rfl (by kernel_rfl) (by kernel_rfl) (by kernel_rfl) (fun _ _ _ h => h) (Or.inl ⟨by rfl, by intro w _; go_simp⟩) hS0 ?_
          refine wpAnyH_take (i := 2) rfl (by kernel_rfl) (by kernel_rfl) (by kernel_rfl) (fun _ _ _ h => h) (yieldsIf_load_mid (by kernel_rfl) 33 (.tmp 8) rfl D 0 (by kernel_rfl) (B.map (Value.int .u8)) (.array 32 5) (fun _ h => h) und33 rfl s32) hS0 ?_
          refine wpAnyH_take (i := 3) (v := .string al) rfl (by kernel_rfl) (by kernel_rfl) (by kernel_rfl) (fun _ _ _ h => h) (Or.inl ⟨by rfl, by intro w _; go_simp⟩) hS0 ?_
          refine wpAnyH_ready (rs := [4]) (by kernel_rfl) (by simp) ?_
          refine AllReadyH.cons rfl (fun K hK => ?_) AllReadyH.nil
          go_simp
          have hb6 : Below w5.drew.heap.size w5.drew (w5.drew.alloc (.cells #[.string al] 9)) := (Below.refl _ _).alloc (Nat.le_refl _) _
          have hS6 : (w5.drew.alloc (.cells #[.string al] 9)).rangeAt D 0 (B.map (Value.int .u8)) := range_below (w := w5.drew) HR5.out hb6 hs5
          refine hK.out _ (w5.drew.alloc (.cells #[.string al] 9)) hS6 (fun _ => ?_)
          clear hK K
          have hb6' : Below w.heap.size w (w5.drew.alloc (.cells #[.string al] 9)) := hb5'.drew.trans (hb6.mono hb5'.size)
          have hs6 : (w5.drew.alloc (.cells #[.string al] 9)).heap.size = w5.heap.size + 1 := by simp
          obtain ⟨w6, hw6⟩ : ∃ w6, w6 = w5.drew.alloc (.cells #[.string al] 9) := ⟨_, rfl⟩
          have hc6 := one_part w5.drew w6 al hw6
          rw [← hw6] at hS6 hb6' hs6 ⊢
          clear hb6 hw6
          refine wpAnyH_ready (rs := [5]) (by kernel_rfl) (by simp) ?_
          refine AllReadyH.cons rfl (fun K hK => ?_) AllReadyH.nil
          go_simp
          (go_at_call 16; refine (sum_some al.data.toList [al.data.toList] (by simp) (by rw [HAM.out]; exact HML.out) w5.drew.heap.size 1 1 rfl w6 (HI.out.below hb6' (by have := HI.out.pos; omega)) (HK.out.below hb6' (by have := HI.out.pos; omega)) (by rw [hs6]; exact Nat.lt_succ_self _) hc6 (by decide)).mono ?_; rintro e wA ⟨rfl, hbA⟩)
          rw [HAM.out, ← HB.out]
          have hSA : wA.rangeAt D 0 (B.map (Value.int .u8)) := range_below hS6 hbA (by omega)
          refine hK.out _ _ hSA (fun _ => ?_)
          clear hK K
          have hbA' : Below w.heap.size w wA := hb6'.trans (hbA.mono hb6'.size)
          have hsA : D < wA.heap.size := by have := hbA.size; omega
          clear hbA hc6 hb6' hS6 hs6
          refine wpAnyH_take (i := 6) (v := .bool true) rfl (by kernel_rfl) (by kernel_rfl) (by kernel_rfl) (fun _ _ _ h => h) (Or.inl ⟨by rfl, by intro w _; go_simp⟩) hSA ?_
          refine wpAnyH_take (i := 7) (v := .bool true) rfl (by kernel_rfl) (by kernel_rfl) (by kernel_rfl) (fun _ _ _ h => h) (Or.inl ⟨by rfl, by intro w _; go_simp⟩) hSA ?_
          refine wpAnyH_take (i := 8) (v := .bool true) rfl (by kernel_rfl) (by kernel_rfl) (by kernel_rfl) (fun _ _ _ h => h) (Or.inl ⟨by rfl, by intro w _; go_simp⟩) hSA ?_
          refine wpAnyH_take (i := 9) (v := .int .u64 p) rfl (by kernel_rfl) (by kernel_rfl) (by kernel_rfl) (fun _ _ _ h => h) (Or.inl ⟨by rfl, by intro w _; go_simp⟩) hSA ?_
          refine wpAnyH_take (i := 10) (v := .string al) rfl (by kernel_rfl) (by kernel_rfl) (by kernel_rfl) (fun _ _ _ h => h) (Or.inl ⟨by rfl, by intro w _; go_simp⟩) hSA ?_
          refine wpAnyH_ready (rs := [11]) (by kernel_rfl) (by simp) ?_
          refine AllReadyH.cons rfl (fun K hK => ?_) AllReadyH.nil
          go_simp
          have hb7 : Below wA.heap.size wA (wA.alloc (.cells #[.string al] 9)) := (Below.refl _ _).alloc (Nat.le_refl _) _
          have hS7 : (wA.alloc (.cells #[.string al] 9)).rangeAt D 0 (B.map (Value.int .u8)) := range_below hSA hb7 hsA
          refine hK.out _ (wA.alloc (.cells #[.string al] 9)) hS7 (fun _ => ?_)
          clear hK K
          have hb7' : Below w.heap.size w (wA.alloc (.cells #[.string al] 9)) := hbA'.trans (hb7.mono hbA'.size)
          have hs7 : (wA.alloc (.cells #[.string al] 9)).heap.size = wA.heap.size + 1 := by simp
          obtain ⟨w7, hw7⟩ : ∃ w7, w7 = wA.alloc (.cells #[.string al] 9) := ⟨_, rfl⟩
          have hc7 := one_part wA w7 al hw7
          rw [← hw7] at hS7 hb7' hs7 ⊢
          clear hb7 hw7 hSA
          refine wpAnyH_ready (rs := [12]) (by kernel_rfl) (by simp) ?_
          refine AllReadyH.cons rfl (fun K hK => ?_) AllReadyH.nil
          go_simp
          (go_at_call 18; refine (point_any _ al.data.toList w7 (sum_some al.data.toList [al.data.toList] (by simp) (by rw [HAM.out]; exact HML.out) wA.heap.size 1 1 rfl w7 (HI.out.below hb7' (by have := HI.out.pos; omega)) (HK.out.below hb7' (by have := HI.out.pos; omega)) (by rw [hs7]; exact Nat.lt_succ_self _) hc7 (by decide))).mono ?_; rintro e wB ⟨rfl, hbB⟩)
          rw [HAM.out, ← HP.out]
          have hSB : wB.rangeAt D 0 (B.map (Value.int .u8)) := range_below hS7 hbB (by omega)
          refine hK.out _ _ hSB (fun _ => ?_)
          clear hK K
          have hbB' : Below w.heap.size w wB := hb7'.trans (hbB.mono hb7'.size)
          clear hbB hc7 hb7' hS7 hs7 hbA' hsA
          refine wpAnyH_take (i := 13) (v := .bool true) rfl (by kernel_rfl) (by kernel_rfl) (by kernel_rfl) (fun _ _ _ h => h) (Or.inl ⟨by rfl, by intro w _; go_simp⟩) hSB ?_
          refine wpAnyH_take (i := 14) (v := .bool true) rfl (by kernel_rfl) (by kernel_rfl) (by kernel_rfl) (fun _ _ _ h => h) (Or.inl ⟨by rfl, by intro w _; go_simp⟩) hSB ?_
          refine wpAnyH_take (i := 15) (v := .bool true) rfl (by kernel_rfl) (by kernel_rfl) (by kernel_rfl) (fun _ _ _ h => h) (Or.inl ⟨by rfl, by intro w _; go_simp⟩) hSB ?_
          refine wpAnyH_done (by kernel_rfl) ?_ _
          go_wp2
          go_ret
          exact ⟨rfl, hbB'⟩

set_option maxRecDepth 100000 in
set_option maxHeartbeats 3200000 in
theorem parts_short (b off n cap : Nat) (ss : Nat → ByteArray) (w : World) (hI : InitIn w) (hK : KeysIn w) (hn : n ≤ 12) (hbl : b < w.heap.size) (hc : ∀ k, k < n → w.cell? ⟨b, off + k, none⟩ = some (.string (ss k))):
    Calls Tryd.prog 7 #[.slice (some ⟨b, off, none⟩) n cap] w fun e w' => e = .returned (.bool true) ∧ Below w.heap.size w w' := by
  have hp := hI.pos
  have HI := Lib.hid hI
  have HK := Lib.hid hK
  clear hI hK
  have HC := Lib.hid hc
  clear hc
  obtain ⟨i0, hi, hz0, hz1, hz2⟩ := info_parts info9
  go_enter Tryd.func7, Tryd.ntmps7
  go_wp2_with fail
  refine (awake_any w HI.out HK.out).mono ?_
  rintro e w1 ⟨rfl, hb1⟩
  go_wp2_with fail
  go_loopw [4, 5, 6] (fun v s i wr => ∃ k : Nat, k ≤ n ∧ i = .int .i64 k ∧ (∃ al : ByteArray, s = .string al ∧ al.data.toList = (cuts ss k).flatten) ∧ wr.ownsRow w.heap.size 9 1 v k ((cuts ss k).map str) ∧ Below w.heap.size w wr) (fun _ _ i _ => n - (intOf i).toNat)
  case atStart => exact ⟨0, by omega, rfl, ⟨⟨#[]⟩, rfl, rfl⟩, World.ownsRow_nil _ _ _ _, hb1⟩
  case round =>
    obtain ⟨k, hk, rfl, ⟨al, rfl, hal⟩, hown, hb⟩ := hrel
    have HAL := Lib.hid hal
    have HOWN := Lib.hid hown
    clear hal hown
    by_cases hlt : k < n
    · have cc : wr.cell? ⟨b, off + k, none⟩ = some (.string (ss k)) := (hb.cell hbl).trans (HC.out k (by omega))
      have q0 : (0 : Int) ≤ (k : Int) := by omega
      have q1 : (k : Int) < (n : Int) := by omega
      have q2 : (k : Int) < 12 := by omega
      by_cases h100 : 100 < (ss k).size
      · have hadd : ∀ w, (Op.stringOp .add al ((ss k).extract 0 100)).run Tryd.prog w = .ok (.string (al ++ ((ss k).extract 0 100))) w := fun w => by
          have h1 := cuts_size ss k
          have h2 := cut_size (ss k)
          rw [← cut_long h100] at h2
          rw [← HAL.out, ← Lib.size_eq] at h1
          exact run_string_add_sum w al ((ss k).extract 0 100) (by omega)
        have hd100 : decide (100 < ((ss k).size : Int)) = true := by simp; omega

        go_wp2_with (at_builtin; refine wpList_append_own _ rfl (.tmp 31) (.tmp 33) 40 rfl w.heap.size 9 i0 (.string ⟨#[]⟩) 1 16 und40 hi hz0 hz1 hz2 rfl (by decide) _ _ _ rfl (HOWN.out.alloc _) ⟨wr.heap.size, 0, none⟩ 1 1 [.string ((ss k).extract 0 100)] rfl rfl ?c1 ?c2 ?c3 ?c4 ?c5 ?_)
        case c1 =>
          intro j u hj
          match j, hj with
          | 0, hj => simp at hj; subst hj; simp [Addr.add]
        case c2 => intro u hu; simp at hu; subst hu; rfl
        case c3 => unfold maxLen; omega
        case c4 => omega
        case c5 => have := hb.size; simp; omega
        intro v' wa hown' hgrow _
        have R := rel_next (cut_long h100) HOWN.out hb hown' hgrow
        clear hown' hgrow hb cc
        have HR := Lib.hid R
        clear R
        go_wp2
        go_roundw
        case rel =>
          refine ⟨k + 1, by omega, by go_num, ⟨_, rfl, ?_⟩, HR.out.1, HR.out.2⟩
          rw [cuts_flat, ← cut_long h100, ← HAL.out]
          simp
        case measure => simp [intOf]; omega
      · have hadd : ∀ w, (Op.stringOp .add al (ss k)).run Tryd.prog w = .ok (.string (al ++ (ss k))) w := fun w => by
          have h1 := cuts_size ss k
          have h2 := cut_size (ss k)
          rw [← cut_short h100] at h2
          rw [← HAL.out, ← Lib.size_eq] at h1
          exact run_string_add_sum w al (ss k) (by omega)
        have hd100 : decide (100 < ((ss k).size : Int)) = false := by simp; omega

        go_wp2_with (at_builtin; refine wpList_append_own _ rfl (.tmp 31) (.tmp 33) 40 rfl w.heap.size 9 i0 (.string ⟨#[]⟩) 1 16 und40 hi hz0 hz1 hz2 rfl (by decide) _ _ _ rfl (HOWN.out.alloc _) ⟨wr.heap.size, 0, none⟩ 1 1 [.string (ss k)] rfl rfl ?c1 ?c2 ?c3 ?c4 ?c5 ?_)
        case c1 =>
          intro j u hj
          match j, hj with
          | 0, hj => simp at hj; subst hj; simp [Addr.add]
        case c2 => intro u hu; simp at hu; subst hu; rfl
        case c3 => unfold maxLen; omega
        case c4 => omega
        case c5 => have := hb.size; simp; omega
        intro v' wa hown' hgrow _
        have R := rel_next (cut_short h100) HOWN.out hb hown' hgrow
        clear hown' hgrow hb cc
        have HR := Lib.hid R
        clear R
        go_wp2
        go_roundw
        case rel =>
          refine ⟨k + 1, by omega, by go_num, ⟨_, rfl, ?_⟩, HR.out.1, HR.out.2⟩
          rw [cuts_flat, ← cut_short h100, ← HAL.out]
          simp
        case measure => simp [intOf]; omega
    · have hkn : k = n := by omega
      have q1 : decide ((k : Int) < (n : Int)) = false := by simp; omega
      obtain ⟨ms, hms⟩ : ∃ ms, ms = (cuts ss k).flatten := ⟨_, rfl⟩
      have hml : ms.length ≤ 1000000 := by have := cuts_size ss k; rw [hms]; omega
      have ham : al.data.toList = ms := by rw [hms]; exact HAL.out
      have hsw : w.heap.size ≤ wr.heap.size := hb.size
      have HMS := Lib.hid hms
      have HML := Lib.hid hml
      have HAM := Lib.hid ham
      clear hms ham hml HAL
      go_wp2_with fail
      refine (sum_own HOWN.out (cuts_length ss k) (by rw [← HMS.out]; exact HML.out) (HI.out.below hb (by omega)) (HK.out.below hb (by omega)) (by omega)).mono ?_
      rintro e w3 ⟨rfl, hb3⟩
      rw [← HMS.out]
      have own3 := own_below HOWN.out hb3
      have hb3' : Below w.heap.size w w3 := hb.trans (hb3.mono hsw)
      have hs3 : w.heap.size ≤ w3.heap.size := hb3'.size
      obtain ⟨B, hB⟩ : ∃ B, B = sumI ms := ⟨_, rfl⟩
      rw [← hB]
      have hBl : B.length = 32 := by rw [hB]; exact sumI_length _
      have hBb : IsBytes B := by rw [hB]; exact sumI_bytes _
      have HOWN3 := Lib.hid own3
      have HB := Lib.hid hB
      have BL := Lib.hid hBl
      have BB := Lib.hid hBb
      clear own3 hB hBl hBb hb hb3 HOWN
      go_wp2_with (refine wpList_store_row rfl 33 (.tmp 8) (.tmp 39) rfl w3.heap.size (ub B) rfl rfl 33 (ub (zs 32)) (heap_alloc_new w3 _) (size33 BL.out) (same_ub (by rw [BL.out]; rfl)) (ub_one _) ?_; rw [World.setRow_alloc_new])
      have g4 : (w3.alloc (.cells (ub B) 33)).heap[w3.heap.size]? = some (.cells (ub B) 33 (0, 0)) := heap_alloc_new w3 _
      have own4 := HOWN3.out.alloc (.cells (ub B) 33)
      have hb4 : Below w.heap.size w (w3.alloc (.cells (ub B) 33)) := hb3'.alloc hs3 _
      have hs4 : (w3.alloc (.cells (ub B) 33)).heap.size = w3.heap.size + 1 := by simp
      obtain ⟨w4, hw4⟩ : ∃ w4, w4 = w3.alloc (.cells (ub B) 33) := ⟨_, rfl⟩
      obtain ⟨D, hD⟩ : ∃ D, D = w3.heap.size := ⟨_, rfl⟩
      rw [← hw4] at g4 own4 hb4 hs4 ⊢
      rw [← hD] at g4 hs4 hs3 ⊢
      refine (point_any _ ms w4 (by have hh := sum_own own4 (cuts_length ss k) (by rw [← HMS.out]; exact HML.out) (HI.out.below hb4 (by omega)) (HK.out.below hb4 (by omega)) (by omega); rw [← HMS.out] at hh; exact hh)).mono ?_
      rintro e w5 ⟨rfl, hb5⟩
      have g5 := (hb5.block D (by omega)).trans g4
      have hb5' : Below w.heap.size w w5 := hb4.trans (hb5.mono (by omega))
      have hs5 : D < w5.heap.size := by have := hb5.size; omega
      obtain ⟨p, hpn⟩ : ∃ p, p = pntI ms := ⟨_, rfl⟩
      rw [← hpn]
      have hpb : ∀ j, j < 8 → p / 2 ^ (56 - 8 * j) % 256 = B.getD j 0 := by
        intro j hj
        rw [hpn, pntI, ← HB.out]
        exact pnt_byte B BB.out j hj
      have G5 := Lib.hid g5
      have HP := Lib.hid hpn
      have HPB := Lib.hid hpb
      clear g4 own4 hb4 hs4 hw4 hD hb3' hb5 g5 hpn hpb HOWN3
      go_wp2_with fail
      go_loop [10] (fun i => ∃ j : Nat, j ≤ 8 ∧ i = .int .i64 j) (fun i => 8 - (intOf i).toNat)
      case atStart => exact ⟨0, by omega, rfl⟩
      case round =>
        obtain ⟨j, hj, rfl⟩ := hrel
        by_cases hlj : j < 8
        · have cD := cell_ub G5.out j (by rw [BL.out]; omega)
          have hpj := HPB.out j hlj
          rw [← hpj] at cD
          have hne : (p / 2 ^ (56 - 8 * j) % 256 != p / 2 ^ min (56 - 8 * j) 64 % 256) = false := by
            rw [Nat.min_eq_left (by omega)]; simp
          clear hpj
          go_wp2
          go_round
          case rel => exact ⟨j + 1, by omega, by go_num⟩
          case measure => simp [intOf]; omega
        · go_wp2
          have q33 : ∀ w, (Op.equalIn 10000 33 (.agg (List.map (Value.int .u8) B).toArray) (.agg (ub B))).run Tryd.prog w = .ok true w := fun w => eq33 B BL.out w
          have g33 := gt33
          have s32 : (Tryd.prog.info? 33).map (·.size) = some (B.map (Value.int .u8)).length := by rw [info33]; simp [BL.out]
          have R5 : w5.rangeAt D 0 (B.map (Value.int .u8)) := by
            intro i v hv
            rw [Nat.zero_add, cell_of_row w5 D i _ _ _ G5.out]
            simpa [ub] using hv
          have HR5 := Lib.hid R5
          clear R5 hp hlj hj
          refine wp_region_held_drew (S := fun w' => w'.rangeAt D 0 (B.map (Value.int .u8))) (by kernel_rfl) HR5.out (fun hS0 => ?_)
          refine wpAnyH_take (i := 0) (v := .bool true) rfl (by kernel_rfl) (by kernel_rfl) (by kernel_rfl) (fun _ _ _ h => h) (Or.inl ⟨by rfl, by intro w _; go_simp⟩) hS0 ?_
          refine wpAnyH_take (i := 1) (v := .bool true) rfl (by kernel_rfl) (by kernel_rfl) (by kernel_rfl) (fun _ _ _ h => h) (Or.inl ⟨by rfl, by intro w _; go_simp⟩) hS0 ?_
          refine wpAnyH_take (i := 2) rfl (by kernel_rfl) (by kernel_rfl) (by kernel_rfl) (fun _ _ _ h => h) (yieldsIf_load_mid (by kernel_rfl) 33 (.tmp 8) rfl D 0 (by kernel_rfl) (B.map (Value.int .u8)) (.array 32 5) (fun _ h => h) und33 rfl s32) hS0 ?_
          refine wpAnyH_take (i := 3) (v := .string al) rfl (by kernel_rfl) (by kernel_rfl) (by kernel_rfl) (fun _ _ _ h => h) (Or.inl ⟨by rfl, by intro w _; go_simp⟩) hS0 ?_
          refine wpAnyH_ready (rs := [4]) (by kernel_rfl) (by simp) ?_
          refine AllReadyH.cons rfl (fun K hK => ?_) AllReadyH.nil
          go_simp
          have hb6 : Below w5.drew.heap.size w5.drew (w5.drew.alloc (.cells #[.string al] 9)) := (Below.refl _ _).alloc (Nat.le_refl _) _
          have hS6 : (w5.drew.alloc (.cells #[.string al] 9)).rangeAt D 0 (B.map (Value.int .u8)) := range_below (w := w5.drew) HR5.out hb6 hs5
          refine hK.out _ (w5.drew.alloc (.cells #[.string al] 9)) hS6 (fun _ => ?_)
          clear hK K
          have hb6' : Below w.heap.size w (w5.drew.alloc (.cells #[.string al] 9)) := hb5'.drew.trans (hb6.mono hb5'.size)
          have hs6 : (w5.drew.alloc (.cells #[.string al] 9)).heap.size = w5.heap.size + 1 := by simp
          obtain ⟨w6, hw6⟩ : ∃ w6, w6 = w5.drew.alloc (.cells #[.string al] 9) := ⟨_, rfl⟩
          have hc6 := one_part w5.drew w6 al hw6
          rw [← hw6] at hS6 hb6' hs6 ⊢
          clear hb6 hw6
          refine wpAnyH_ready (rs := [5]) (by kernel_rfl) (by simp) ?_
          refine AllReadyH.cons rfl (fun K hK => ?_) AllReadyH.nil
          go_simp
          (go_at_call 16; refine (sum_some al.data.toList [al.data.toList] (by simp) (by rw [HAM.out]; exact HML.out) w5.drew.heap.size 1 1 rfl w6 (HI.out.below hb6' (by have := HI.out.pos; omega)) (HK.out.below hb6' (by have := HI.out.pos; omega)) (by rw [hs6]; exact Nat.lt_succ_self _) hc6 (by decide)).mono ?_; rintro e wA ⟨rfl, hbA⟩)
          rw [HAM.out, ← HB.out]
          have hSA : wA.rangeAt D 0 (B.map (Value.int .u8)) := range_below hS6 hbA (by omega)
          refine hK.out _ _ hSA (fun _ => ?_)
          clear hK K
          have hbA' : Below w.heap.size w wA := hb6'.trans (hbA.mono hb6'.size)
          have hsA : D < wA.heap.size := by have := hbA.size; omega
          clear hbA hc6 hb6' hS6 hs6
          refine wpAnyH_take (i := 6) (v := .bool true) rfl (by kernel_rfl) (by kernel_rfl) (by kernel_rfl) (fun _ _ _ h => h) (Or.inl ⟨by rfl, by intro w _; go_simp⟩) hSA ?_
          refine wpAnyH_take (i := 7) (v := .bool true) rfl (by kernel_rfl) (by kernel_rfl) (by kernel_rfl) (fun _ _ _ h => h) (Or.inl ⟨by rfl, by intro w _; go_simp⟩) hSA ?_
          refine wpAnyH_take (i := 8) (v := .bool true) rfl (by kernel_rfl) (by kernel_rfl) (by kernel_rfl) (fun _ _ _ h => h) (Or.inl ⟨by rfl, by intro w _; go_simp⟩) hSA ?_
          refine wpAnyH_take (i := 9) (v := .int .u64 p) rfl (by kernel_rfl) (by kernel_rfl) (by kernel_rfl) (fun _ _ _ h => h) (Or.inl ⟨by rfl, by intro w _; go_simp⟩) hSA ?_
          refine wpAnyH_take (i := 10) (v := .string al) rfl (by kernel_rfl) (by kernel_rfl) (by kernel_rfl) (fun _ _ _ h => h) (Or.inl ⟨by rfl, by intro w _; go_simp⟩) hSA ?_
          refine wpAnyH_ready (rs := [11]) (by kernel_rfl) (by simp) ?_
          refine AllReadyH.cons rfl (fun K hK => ?_) AllReadyH.nil
          go_simp
          have hb7 : Below wA.heap.size wA (wA.alloc (.cells #[.string al] 9)) := (Below.refl _ _).alloc (Nat.le_refl _) _
          have hS7 : (wA.alloc (.cells #[.string al] 9)).rangeAt D 0 (B.map (Value.int .u8)) := range_below hSA hb7 hsA
          refine hK.out _ (wA.alloc (.cells #[.string al] 9)) hS7 (fun _ => ?_)
          clear hK K
          have hb7' : Below w.heap.size w (wA.alloc (.cells #[.string al] 9)) := hbA'.trans (hb7.mono hbA'.size)
          have hs7 : (wA.alloc (.cells #[.string al] 9)).heap.size = wA.heap.size + 1 := by simp
          obtain ⟨w7, hw7⟩ : ∃ w7, w7 = wA.alloc (.cells #[.string al] 9) := ⟨_, rfl⟩
          have hc7 := one_part wA w7 al hw7
          rw [← hw7] at hS7 hb7' hs7 ⊢
          clear hb7 hw7 hSA
          refine wpAnyH_ready (rs := [12]) (by kernel_rfl) (by simp) ?_
          refine AllReadyH.cons rfl (fun K hK => ?_) AllReadyH.nil
          go_simp
          (go_at_call 18; refine (point_any _ al.data.toList w7 (sum_some al.data.toList [al.data.toList] (by simp) (by rw [HAM.out]; exact HML.out) wA.heap.size 1 1 rfl w7 (HI.out.below hb7' (by have := HI.out.pos; omega)) (HK.out.below hb7' (by have := HI.out.pos; omega)) (by rw [hs7]; exact Nat.lt_succ_self _) hc7 (by decide))).mono ?_; rintro e wB ⟨rfl, hbB⟩)
          rw [HAM.out, ← HP.out]
          have hSB : wB.rangeAt D 0 (B.map (Value.int .u8)) := range_below hS7 hbB (by omega)
          refine hK.out _ _ hSB (fun _ => ?_)
          clear hK K
          have hbB' : Below w.heap.size w wB := hb7'.trans (hbB.mono hb7'.size)
          clear hbB hc7 hb7' hS7 hs7 hbA' hsA
          refine wpAnyH_take (i := 13) (v := .bool true) rfl (by kernel_rfl) (by kernel_rfl) (by kernel_rfl) (fun _ _ _ h => h) (Or.inl ⟨by rfl, by intro w _; go_simp⟩) hSB ?_
          refine wpAnyH_take (i := 14) (v := .bool true) rfl (by kernel_rfl) (by kernel_rfl) (by kernel_rfl) (fun _ _ _ h => h) (Or.inl ⟨by rfl, by intro w _; go_simp⟩) hSB ?_
          refine wpAnyH_take (i := 15) (v := .bool true) rfl (by kernel_rfl) (by kernel_rfl) (by kernel_rfl) (fun _ _ _ h => h) (Or.inl ⟨by rfl, by intro w _; go_simp⟩) hSB ?_
          refine wpAnyH_done (by kernel_rfl) ?_ _
          go_wp2
          go_ret
          exact ⟨rfl, hbB'⟩

set_option maxRecDepth 100000 in
set_option maxHeartbeats 3200000 in
theorem parts_long (b off n cap : Nat) (ss : Nat → ByteArray) (w : World) (hI : InitIn w) (hK : KeysIn w) (hn : 12 < n) (hbl : b < w.heap.size) (hc : ∀ k, k < n → w.cell? ⟨b, off + k, none⟩ = some (.string (ss k))):
    Calls Tryd.prog 7 #[.slice (some ⟨b, off, none⟩) n cap] w fun e w' => e = .returned (.bool true) ∧ Below w.heap.size w w' := by
  have hp := hI.pos
  have HI := Lib.hid hI
  have HK := Lib.hid hK
  clear hI hK
  have HC := Lib.hid hc
  clear hc
  obtain ⟨i0, hi, hz0, hz1, hz2⟩ := info_parts info9
  go_enter Tryd.func7, Tryd.ntmps7
  go_wp2_with fail
  refine (awake_any w HI.out HK.out).mono ?_
  rintro e w1 ⟨rfl, hb1⟩
  go_wp2_with fail
  go_loopw [4, 5, 6] (fun v s i wr => ∃ k : Nat, k ≤ 12 ∧ i = .int .i64 k ∧ (∃ al : ByteArray, s = .string al ∧ al.data.toList = (cuts ss k).flatten) ∧ wr.ownsRow w.heap.size 9 1 v k ((cuts ss k).map str) ∧ Below w.heap.size w wr) (fun _ _ i _ => 12 - (intOf i).toNat)
  case atStart => exact ⟨0, by omega, rfl, ⟨⟨#[]⟩, rfl, rfl⟩, World.ownsRow_nil _ _ _ _, hb1⟩
  case round =>
    obtain ⟨k, hk, rfl, ⟨al, rfl, hal⟩, hown, hb⟩ := hrel
    have HAL := Lib.hid hal
    have HOWN := Lib.hid hown
    clear hal hown
    by_cases hlt : k < 12
    · have cc : wr.cell? ⟨b, off + k, none⟩ = some (.string (ss k)) := (hb.cell hbl).trans (HC.out k (by omega))
      have q0 : (0 : Int) ≤ (k : Int) := by omega
      have q1 : (k : Int) < (n : Int) := by omega
      have q2 : (k : Int) < 12 := by omega
      by_cases h100 : 100 < (ss k).size
      · have hadd : ∀ w, (Op.stringOp .add al ((ss k).extract 0 100)).run Tryd.prog w = .ok (.string (al ++ ((ss k).extract 0 100))) w := fun w => by
          have h1 := cuts_size ss k
          have h2 := cut_size (ss k)
          rw [← cut_long h100] at h2
          rw [← HAL.out, ← Lib.size_eq] at h1
          exact run_string_add_sum w al ((ss k).extract 0 100) (by omega)
        have hd100 : decide (100 < ((ss k).size : Int)) = true := by simp; omega

        go_wp2_with (at_builtin; refine wpList_append_own _ rfl (.tmp 31) (.tmp 33) 40 rfl w.heap.size 9 i0 (.string ⟨#[]⟩) 1 16 und40 hi hz0 hz1 hz2 rfl (by decide) _ _ _ rfl (HOWN.out.alloc _) ⟨wr.heap.size, 0, none⟩ 1 1 [.string ((ss k).extract 0 100)] rfl rfl ?c1 ?c2 ?c3 ?c4 ?c5 ?_)
        case c1 =>
          intro j u hj
          match j, hj with
          | 0, hj => simp at hj; subst hj; simp [Addr.add]
        case c2 => intro u hu; simp at hu; subst hu; rfl
        case c3 => unfold maxLen; omega
        case c4 => omega
        case c5 => have := hb.size; simp; omega
        intro v' wa hown' hgrow _
        have R := rel_next (cut_long h100) HOWN.out hb hown' hgrow
        clear hown' hgrow hb cc
        have HR := Lib.hid R
        clear R
        go_wp2
        go_roundw
        case rel =>
          refine ⟨k + 1, by omega, by go_num, ⟨_, rfl, ?_⟩, HR.out.1, HR.out.2⟩
          rw [cuts_flat, ← cut_long h100, ← HAL.out]
          simp
        case measure => simp [intOf]; omega
      · have hadd : ∀ w, (Op.stringOp .add al (ss k)).run Tryd.prog w = .ok (.string (al ++ (ss k))) w := fun w => by
          have h1 := cuts_size ss k
          have h2 := cut_size (ss k)
          rw [← cut_short h100] at h2
          rw [← HAL.out, ← Lib.size_eq] at h1
          exact run_string_add_sum w al (ss k) (by omega)
        have hd100 : decide (100 < ((ss k).size : Int)) = false := by simp; omega

        go_wp2_with (at_builtin; refine wpList_append_own _ rfl (.tmp 31) (.tmp 33) 40 rfl w.heap.size 9 i0 (.string ⟨#[]⟩) 1 16 und40 hi hz0 hz1 hz2 rfl (by decide) _ _ _ rfl (HOWN.out.alloc _) ⟨wr.heap.size, 0, none⟩ 1 1 [.string (ss k)] rfl rfl ?c1 ?c2 ?c3 ?c4 ?c5 ?_)
        case c1 =>
          intro j u hj
          match j, hj with
          | 0, hj => simp at hj; subst hj; simp [Addr.add]
        case c2 => intro u hu; simp at hu; subst hu; rfl
        case c3 => unfold maxLen; omega
        case c4 => omega
        case c5 => have := hb.size; simp; omega
        intro v' wa hown' hgrow _
        have R := rel_next (cut_short h100) HOWN.out hb hown' hgrow
        clear hown' hgrow hb cc
        have HR := Lib.hid R
        clear R
        go_wp2
        go_roundw
        case rel =>
          refine ⟨k + 1, by omega, by go_num, ⟨_, rfl, ?_⟩, HR.out.1, HR.out.2⟩
          rw [cuts_flat, ← cut_short h100, ← HAL.out]
          simp
        case measure => simp [intOf]; omega
    · have hkn : k = 12 := by omega
      have q1 : decide ((k : Int) < (n : Int)) = true := by simp; omega
      have q2 : decide ((k : Int) < 12) = false := by simp; omega
      obtain ⟨ms, hms⟩ : ∃ ms, ms = (cuts ss k).flatten := ⟨_, rfl⟩
      have hml : ms.length ≤ 1000000 := by have := cuts_size ss k; rw [hms]; omega
      have ham : al.data.toList = ms := by rw [hms]; exact HAL.out
      have hsw : w.heap.size ≤ wr.heap.size := hb.size
      have HMS := Lib.hid hms
      have HML := Lib.hid hml
      have HAM := Lib.hid ham
      clear hms ham hml HAL
      go_wp2_with fail
      refine (sum_own HOWN.out (cuts_length ss k) (by rw [← HMS.out]; exact HML.out) (HI.out.below hb (by omega)) (HK.out.below hb (by omega)) (by omega)).mono ?_
      rintro e w3 ⟨rfl, hb3⟩
      rw [← HMS.out]
      have own3 := own_below HOWN.out hb3
      have hb3' : Below w.heap.size w w3 := hb.trans (hb3.mono hsw)
      have hs3 : w.heap.size ≤ w3.heap.size := hb3'.size
      obtain ⟨B, hB⟩ : ∃ B, B = sumI ms := ⟨_, rfl⟩
      rw [← hB]
      have hBl : B.length = 32 := by rw [hB]; exact sumI_length _
      have hBb : IsBytes B := by rw [hB]; exact sumI_bytes _
      have HOWN3 := Lib.hid own3
      have HB := Lib.hid hB
      have BL := Lib.hid hBl
      have BB := Lib.hid hBb
      clear own3 hB hBl hBb hb hb3 HOWN
      go_wp2_with (refine wpList_store_row rfl 33 (.tmp 8) (.tmp 39) rfl w3.heap.size (ub B) rfl rfl 33 (ub (zs 32)) (heap_alloc_new w3 _) (size33 BL.out) (same_ub (by rw [BL.out]; rfl)) (ub_one _) ?_; rw [World.setRow_alloc_new])
      have g4 : (w3.alloc (.cells (ub B) 33)).heap[w3.heap.size]? = some (.cells (ub B) 33 (0, 0)) := heap_alloc_new w3 _
      have own4 := HOWN3.out.alloc (.cells (ub B) 33)
      have hb4 : Below w.heap.size w (w3.alloc (.cells (ub B) 33)) := hb3'.alloc hs3 _
      have hs4 : (w3.alloc (.cells (ub B) 33)).heap.size = w3.heap.size + 1 := by simp
      obtain ⟨w4, hw4⟩ : ∃ w4, w4 = w3.alloc (.cells (ub B) 33) := ⟨_, rfl⟩
      obtain ⟨D, hD⟩ : ∃ D, D = w3.heap.size := ⟨_, rfl⟩
      rw [← hw4] at g4 own4 hb4 hs4 ⊢
      rw [← hD] at g4 hs4 hs3 ⊢
      refine (point_any _ ms w4 (by have hh := sum_own own4 (cuts_length ss k) (by rw [← HMS.out]; exact HML.out) (HI.out.below hb4 (by omega)) (HK.out.below hb4 (by omega)) (by omega); rw [← HMS.out] at hh; exact hh)).mono ?_
      rintro e w5 ⟨rfl, hb5⟩
      have g5 := (hb5.block D (by omega)).trans g4
      have hb5' : Below w.heap.size w w5 := hb4.trans (hb5.mono (by omega))
      have hs5 : D < w5.heap.size := by have := hb5.size; omega
      obtain ⟨p, hpn⟩ : ∃ p, p = pntI ms := ⟨_, rfl⟩
      rw [← hpn]
      have hpb : ∀ j, j < 8 → p / 2 ^ (56 - 8 * j) % 256 = B.getD j 0 := by
        intro j hj
        rw [hpn, pntI, ← HB.out]
        exact pnt_byte B BB.out j hj
      have G5 := Lib.hid g5
      have HP := Lib.hid hpn
      have HPB := Lib.hid hpb
      clear g4 own4 hb4 hs4 hw4 hD hb3' hb5 g5 hpn hpb HOWN3
      go_wp2_with fail
      go_loop [10] (fun i => ∃ j : Nat, j ≤ 8 ∧ i = .int .i64 j) (fun i => 8 - (intOf i).toNat)
      case atStart => exact ⟨0, by omega, rfl⟩
      case round =>
        obtain ⟨j, hj, rfl⟩ := hrel
        by_cases hlj : j < 8
        · have cD := cell_ub G5.out j (by rw [BL.out]; omega)
          have hpj := HPB.out j hlj
          rw [← hpj] at cD
          have hne : (p / 2 ^ (56 - 8 * j) % 256 != p / 2 ^ min (56 - 8 * j) 64 % 256) = false := by
            rw [Nat.min_eq_left (by omega)]; simp
          clear hpj
          go_wp2
          go_round
          case rel => exact ⟨j + 1, by omega, by go_num⟩
          case measure => simp [intOf]; omega
        · go_wp2
          have q33 : ∀ w, (Op.equalIn 10000 33 (.agg (List.map (Value.int .u8) B).toArray) (.agg (ub B))).run Tryd.prog w = .ok true w := fun w => eq33 B BL.out w
          have g33 := gt33
          have s32 : (Tryd.prog.info? 33).map (·.size) = some (B.map (Value.int .u8)).length := by rw [info33]; simp [BL.out]
          have R5 : w5.rangeAt D 0 (B.map (Value.int .u8)) := by
            intro i v hv
            rw [Nat.zero_add, cell_of_row w5 D i _ _ _ G5.out]
            simpa [ub] using hv
          have HR5 := Lib.hid R5
          clear R5 hp hlj hj
          refine wp_region_held_drew (S := fun w' => w'.rangeAt D 0 (B.map (Value.int .u8))) (by kernel_rfl) HR5.out (fun hS0 => ?_)
          refine wpAnyH_take (i := 0) (v := .bool true) rfl (by kernel_rfl) (by kernel_rfl) (by kernel_rfl) (fun _ _ _ h => h) (Or.inl ⟨by rfl, by intro w _; go_simp⟩) hS0 ?_
          refine wpAnyH_take (i := 1) (v := .bool true) rfl (by kernel_rfl) (by kernel_rfl) (by kernel_rfl) (fun _ _ _ h => h) (Or.inl ⟨by rfl, by intro w _; go_simp⟩) hS0 ?_
          refine wpAnyH_take (i := 2) rfl (by kernel_rfl) (by kernel_rfl) (by kernel_rfl) (fun _ _ _ h => h) (yieldsIf_load_mid (by kernel_rfl) 33 (.tmp 8) rfl D 0 (by kernel_rfl) (B.map (Value.int .u8)) (.array 32 5) (fun _ h => h) und33 rfl s32) hS0 ?_
          refine wpAnyH_take (i := 3) (v := .string al) rfl (by kernel_rfl) (by kernel_rfl) (by kernel_rfl) (fun _ _ _ h => h) (Or.inl ⟨by rfl, by intro w _; go_simp⟩) hS0 ?_
          refine wpAnyH_ready (rs := [4]) (by kernel_rfl) (by simp) ?_
          refine AllReadyH.cons rfl (fun K hK => ?_) AllReadyH.nil
          go_simp
          have hb6 : Below w5.drew.heap.size w5.drew (w5.drew.alloc (.cells #[.string al] 9)) := (Below.refl _ _).alloc (Nat.le_refl _) _
          have hS6 : (w5.drew.alloc (.cells #[.string al] 9)).rangeAt D 0 (B.map (Value.int .u8)) := range_below (w := w5.drew) HR5.out hb6 hs5
          refine hK.out _ (w5.drew.alloc (.cells #[.string al] 9)) hS6 (fun _ => ?_)
          clear hK K
          have hb6' : Below w.heap.size w (w5.drew.alloc (.cells #[.string al] 9)) := hb5'.drew.trans (hb6.mono hb5'.size)
          have hs6 : (w5.drew.alloc (.cells #[.string al] 9)).heap.size = w5.heap.size + 1 := by simp
          obtain ⟨w6, hw6⟩ : ∃ w6, w6 = w5.drew.alloc (.cells #[.string al] 9) := ⟨_, rfl⟩
          have hc6 := one_part w5.drew w6 al hw6
          rw [← hw6] at hS6 hb6' hs6 ⊢
          clear hb6 hw6
          refine wpAnyH_ready (rs := [5]) (by kernel_rfl) (by simp) ?_
          refine AllReadyH.cons rfl (fun K hK => ?_) AllReadyH.nil
          go_simp
          (go_at_call 16; refine (sum_some al.data.toList [al.data.toList] (by simp) (by rw [HAM.out]; exact HML.out) w5.drew.heap.size 1 1 rfl w6 (HI.out.below hb6' (by have := HI.out.pos; omega)) (HK.out.below hb6' (by have := HI.out.pos; omega)) (by rw [hs6]; exact Nat.lt_succ_self _) hc6 (by decide)).mono ?_; rintro e wA ⟨rfl, hbA⟩)
          rw [HAM.out, ← HB.out]
          have hSA : wA.rangeAt D 0 (B.map (Value.int .u8)) := range_below hS6 hbA (by omega)
          refine hK.out _ _ hSA (fun _ => ?_)
          clear hK K
          have hbA' : Below w.heap.size w wA := hb6'.trans (hbA.mono hb6'.size)
          have hsA : D < wA.heap.size := by have := hbA.size; omega
          clear hbA hc6 hb6' hS6 hs6
          refine wpAnyH_take (i := 6) (v := .bool true) rfl (by kernel_rfl) (by kernel_rfl) (by kernel_rfl) (fun _ _ _ h => h) (Or.inl ⟨by rfl, by intro w _; go_simp⟩) hSA ?_
          refine wpAnyH_take (i := 7) (v := .bool true) rfl (by kernel_rfl) (by kernel_rfl) (by kernel_rfl) (fun _ _ _ h => h) (Or.inl ⟨by rfl, by intro w _; go_simp⟩) hSA ?_
          refine wpAnyH_take (i := 8) (v := .bool true) rfl (by kernel_rfl) (by kernel_rfl) (by kernel_rfl) (fun _ _ _ h => h) (Or.inl ⟨by rfl, by intro w _; go_simp⟩) hSA ?_
          refine wpAnyH_take (i := 9) (v := .int .u64 p) rfl (by kernel_rfl) (by kernel_rfl) (by kernel_rfl) (fun _ _ _ h => h) (Or.inl ⟨by rfl, by intro w _; go_simp⟩) hSA ?_
          refine wpAnyH_take (i := 10) (v := .string al) rfl (by kernel_rfl) (by kernel_rfl) (by kernel_rfl) (fun _ _ _ h => h) (Or.inl ⟨by rfl, by intro w _; go_simp⟩) hSA ?_
          refine wpAnyH_ready (rs := [11]) (by kernel_rfl) (by simp) ?_
          refine AllReadyH.cons rfl (fun K hK => ?_) AllReadyH.nil
          go_simp
          have hb7 : Below wA.heap.size wA (wA.alloc (.cells #[.string al] 9)) := (Below.refl _ _).alloc (Nat.le_refl _) _
          have hS7 : (wA.alloc (.cells #[.string al] 9)).rangeAt D 0 (B.map (Value.int .u8)) := range_below hSA hb7 hsA
          refine hK.out _ (wA.alloc (.cells #[.string al] 9)) hS7 (fun _ => ?_)
          clear hK K
          have hb7' : Below w.heap.size w (wA.alloc (.cells #[.string al] 9)) := hbA'.trans (hb7.mono hbA'.size)
          have hs7 : (wA.alloc (.cells #[.string al] 9)).heap.size = wA.heap.size + 1 := by simp
          obtain ⟨w7, hw7⟩ : ∃ w7, w7 = wA.alloc (.cells #[.string al] 9) := ⟨_, rfl⟩
          have hc7 := one_part wA w7 al hw7
          rw [← hw7] at hS7 hb7' hs7 ⊢
          clear hb7 hw7 hSA
          refine wpAnyH_ready (rs := [12]) (by kernel_rfl) (by simp) ?_
          refine AllReadyH.cons rfl (fun K hK => ?_) AllReadyH.nil
          go_simp
          (go_at_call 18; refine (point_any _ al.data.toList w7 (sum_some al.data.toList [al.data.toList] (by simp) (by rw [HAM.out]; exact HML.out) wA.heap.size 1 1 rfl w7 (HI.out.below hb7' (by have := HI.out.pos; omega)) (HK.out.below hb7' (by have := HI.out.pos; omega)) (by rw [hs7]; exact Nat.lt_succ_self _) hc7 (by decide))).mono ?_; rintro e wB ⟨rfl, hbB⟩)
          rw [HAM.out, ← HP.out]
          have hSB : wB.rangeAt D 0 (B.map (Value.int .u8)) := range_below hS7 hbB (by omega)
          refine hK.out _ _ hSB (fun _ => ?_)
          clear hK K
          have hbB' : Below w.heap.size w wB := hb7'.trans (hbB.mono hb7'.size)
          clear hbB hc7 hb7' hS7 hs7 hbA' hsA
          refine wpAnyH_take (i := 13) (v := .bool true) rfl (by kernel_rfl) (by kernel_rfl) (by kernel_rfl) (fun _ _ _ h => h) (Or.inl ⟨by rfl, by intro w _; go_simp⟩) hSB ?_
          refine wpAnyH_take (i := 14) (v := .bool true) rfl (by kernel_rfl) (by kernel_rfl) (by kernel_rfl) (fun _ _ _ h => h) (Or.inl ⟨by rfl, by intro w _; go_simp⟩) hSB ?_
          refine wpAnyH_take (i := 15) (v := .bool true) rfl (by kernel_rfl) (by kernel_rfl) (by kernel_rfl) (fun _ _ _ h => h) (Or.inl ⟨by rfl, by intro w _; go_simp⟩) hSB ?_
          refine wpAnyH_done (by kernel_rfl) ?_ _
          go_wp2
          go_ret
          exact ⟨rfl, hbB'⟩
end Go.Proofs.YtiagngggnhdefaaDoor
