/-
  What sha.Pad hands back, for any number: nothing, or what the document says; no older memory is changed.
-/
import Derived.Test.YtomghpielgkigaaDoorPadMath
namespace Go.Proofs.YtomghpielgkigaaDoor
open Go.RowKit

theorem pad_lo (n : Int) (w : World) (hn : n < 0) :
    Calls Tryd.prog 46 #[.int .i64 n] w fun e w' => e = .returned (.string ⟨#[]⟩) ∧ w = w' := by
  go_enter Tryd.func46, Tryd.ntmps46
  go_wp2
  go_ret
  exact ⟨rfl, rfl⟩
theorem pad_hi (n : Int) (w : World) (hn : 1152921504606846976 < n) (hn2 : n ≤ 9223372036854775807) :
    Calls Tryd.prog 46 #[.int .i64 n] w fun e w' => e = .returned (.string ⟨#[]⟩) ∧ w = w' := by
  have h0 : ¬ n < 0 := by omega
  have h1 : IntKind.u64.wrap n = n := by rw [IntKind.wrap_u64]; omega
  go_enter Tryd.func46, Tryd.ntmps46
  go_wp2
  go_ret
  exact ⟨rfl, rfl⟩
set_option maxRecDepth 100000 in
set_option maxHeartbeats 800000 in
theorem pad_mid (N : Nat) (w : World) (hn : N ≤ 1152921504606846976) :
    Calls Tryd.prog 46 #[.int .i64 N] w fun e w' => e = .returned (str (padL N)) ∧ Below w.heap.size w w' := by
  have h1 : IntKind.u64.wrap (N : Int) = N := by rw [IntKind.wrap_u64]; omega
  have h2 : ¬ (1152921504606846976 < (N : Int)) := by omega
  obtain ⟨Z, hZ⟩ : ∃ Z, Z = padZ N := ⟨_, rfl⟩
  have E1 := Lib.hid (padZ_int N)
  have E2 := Lib.hid (padZ_int' N)
  have hz : Z < 64 := by rw [hZ]; exact padZ_lt N
  rw [← hZ] at E1 E2
  have HZ := Lib.hid hZ
  have hd : decide ((N : Int) < 0) = false := by simp
  clear hZ
  go_enter Tryd.func46, Tryd.ntmps46
  go_wp2_with (at_make; simp only [E1.out, E2.out]; refine wpList_make_u8 w rfl _ _ rfl (1 + (Z : Int) + 8) (1 + (Z : Int) + 8) (Z + 9) rfl rfl (by omega) (by omega) (by omega) ?_; intro w1 hw1 hb1 hs1; have c0 := cell_ub hw1 0 (by simp); have f0 := frozen_of_row w1 _ 0 _ _ hw1; have HW1 := Lib.hid hw1; have HS1 := Lib.hid hs1; clear hw1 hs1)
  have hst : (w1.setCell ⟨w.heap.size, 0, none⟩ (.int .u8 128)).heap[w.heap.size]? = some (.cells (ub (u8s (padPre N 0))) 5 (0, 0)) := by
    have := set_ub (w := w1) (i := 0) (v := 128) HW1.out
    rw [HZ.out, padPre_zero] at this
    exact this
  have hb2 : Below w.heap.size w (w1.setCell ⟨w.heap.size, 0, none⟩ (.int .u8 128)) := hb1.setCell (Nat.le_refl _) _
  obtain ⟨w2, hw2⟩ : ∃ w2, w2 = w1.setCell ⟨w.heap.size, 0, none⟩ (.int .u8 128) := ⟨_, rfl⟩
  rw [← hw2] at hst hb2 ⊢
  have HST := Lib.hid hst
  clear hw2 hst hb1 c0 f0
  go_loopw [32] (fun i wr => ∃ k : Nat, k ≤ 8 ∧ i = .int .i64 k ∧ wr.heap[w.heap.size]? = some (.cells (ub (u8s (padPre N k))) 5 (0, 0)) ∧ Below w.heap.size w wr) (fun i _ => 8 - (intOf i).toNat)
  case atStart => exact ⟨0, by omega, rfl, HST.out, hb2⟩
  case round =>
    obtain ⟨k, hk, rfl, hw, hbr⟩ := hrel
    by_cases hlt : k < 8
    · have c0 := cell_ub hw (1 + Z + k) (by rw [u8s_length, padPre_length N k hk, ← HZ.out]; omega)
      have f0 := frozen_of_row wr _ (1 + Z + k) _ _ hw
      have HW := Lib.hid hw
      clear hw
      go_wp2
      go_roundw
      case rel =>
        refine ⟨k + 1, by omega, by go_num, ?_, hbr.setCell (Nat.le_refl _) _⟩
        refine (set_ub HW.out).trans ?_
        have h3 := padPre_step N k hlt
        rw [← HZ.out] at h3
        rw [h3]
      case measure => simp [intOf]; omega
    · have hk8 : k = 8 := by omega
      rw [hk8, padPre_end] at hw
      have hcv : (convert 60 9 (.slice (some ⟨w.heap.size, 0, none⟩) (Z + 9) (Z + 9))).run Tryd.prog wr = .ok (str (padL N)) wr := by
        have := run_convert_bytes_back (P := Tryd.prog) wr 60 9 5 ⟨w.heap.size, 0, none⟩ (Z + 9) (padL N) und49 und5 und9 (fun j hj => by
          rw [Addr.add_mid, Nat.zero_add, cell_ub hw j (by rw [u8s_length]; exact hj)]
          simp [u8s, hj])
        rw [padL_length, ← HZ.out] at this
        exact this
      clear hw hk8
      go_wp2
      go_ret
      exact ⟨rfl, hbr⟩
end Go.Proofs.YtomghpielgkigaaDoor
