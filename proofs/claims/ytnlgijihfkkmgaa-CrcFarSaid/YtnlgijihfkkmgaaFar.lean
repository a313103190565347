/-
  The walk of the law CrcFar: for any number and any two counts it returns true; no older memory is changed.
-/
import Derived.Test.YtnlgijihfkkmgaaAwake
import Derived.BigGuardPart
namespace Go.Proofs.Ytnlgijihfkkmgaa
open Go.RowKit
theorem amt_top (n : Int) (h : 1099511627776 ≤ n) : Amt n 1099511627776 := by
  rcases Int.lt_or_eq_of_le h with h1 | h1
  · exact Or.inr (Or.inr ⟨h1, rfl⟩)
  · exact Or.inr (Or.inl ⟨h1.symm, by omega⟩)
set_option maxHeartbeats 800000 in
theorem far_out (c : Nat) (hc : c < 4294967296) (n m : Int) (hn1 : -9223372036854775808 ≤ n) (hn2 : n ≤ 9223372036854775807) (hm1 : -9223372036854775808 ≤ m) (hm2 : m ≤ 9223372036854775807)
    (h : n < 0 ∨ (0 ≤ n ∧ m < 0) ∨ (0 ≤ n ∧ 0 ≤ m ∧ 1073741824 ≤ n) ∨ (0 ≤ n ∧ 0 ≤ m ∧ n < 1073741824 ∧ 1073741824 ≤ m)) (w : World) :
    Calls Try.prog 7 #[.int .u32 (c : Int), .int .i64 n, .int .i64 m] w fun e w' => e = .returned (.bool true) ∧ Below w.heap.size w w' := by
  have h0 : Hid (Amt 0 0) := Lib.hid (Or.inr (Or.inl ⟨rfl, by omega⟩))
  have h5 : Hid (Amt (-5) 0) := Lib.hid (Or.inl ⟨by omega, rfl⟩)
  have hz : stn (8 * 0) c = c := rfl
  rcases h with h | ⟨ha, h⟩ | ⟨ha, hb, h⟩ | ⟨ha, hb, hd, h⟩
  rotate_left 3
  · have d0 : decide (1073741824 ≤ n) = false := by simp; omega
    have d1 : decide (1073741824 ≤ m) = true := by simp; omega
    have d2 : decide (n < 0) = false := by simp; omega
    have d3 : decide (m < 0) = false := by simp; omega
    clear ha hb hd h hn1 hn2 hm1 hm2
    go_enter Try.func7, Try.ntmps7
    go_wp2_with fail
    refine (awake_any w).mono ?_
    rintro e w1 ⟨rfl, hb1⟩
    go_wp2_with fail
    refine (shift_any c hc 0 (by omega) (by omega) 0 h0.out w1).mono ?_
    rintro e w2 ⟨rfl, rfl⟩
    rw [hz]
    go_wp2_with fail
    refine (shift_any c hc (-5) (by omega) (by omega) 0 h5.out w1).mono ?_
    rintro e w2 ⟨rfl, rfl⟩
    rw [hz]
    go_wp2
    go_ret
    exact ⟨rfl, hb1⟩
  all_goals
    go_enter Try.func7, Try.ntmps7
    go_wp2_with fail
    refine (awake_any w).mono ?_
    rintro e w1 ⟨rfl, hb1⟩
    go_wp2_with fail
    refine (shift_any c hc 0 (by omega) (by omega) 0 h0.out w1).mono ?_
    rintro e w2 ⟨rfl, rfl⟩
    rw [hz]
    go_wp2_with fail
    refine (shift_any c hc (-5) (by omega) (by omega) 0 h5.out w1).mono ?_
    rintro e w2 ⟨rfl, rfl⟩
    rw [hz]
    go_wp2
    go_ret
    exact ⟨rfl, hb1⟩
set_option maxHeartbeats 800000 in
theorem far_in (c : Nat) (hc : c < 4294967296) (n m : Int) (N M : Nat) (hN : Hid (Amt n N)) (hM : Hid (Amt m M)) (hS : Hid (Amt (n + m) (N + M))) (hn0 : 0 ≤ n) (hn : n < 1073741824) (hm0 : 0 ≤ m) (hm : m < 1073741824) (w : World) :
    Calls Try.prog 7 #[.int .u32 (c : Int), .int .i64 n, .int .i64 m] w fun e w' => e = .returned (.bool true) ∧ Below w.heap.size w w' := by
  have hT : Hid (stn (8 * M) (stn (8 * N) c) = stn (8 * (N + M)) c) := Lib.hid (by rw [← stn_add, Nat.mul_add])
  have d1 : decide (1073741824 ≤ n) = false := by simp; omega
  have d2 : decide (1073741824 ≤ m) = false := by simp; omega
  have hc' := Lib.hid hc
  have hd := Lib.hid (stn_lt (8 * N) hc)
  clear hc
  go_enter Try.func7, Try.ntmps7
  go_wp2_with fail
  refine (awake_any w).mono ?_
  rintro e w1 ⟨rfl, hb1⟩
  go_wp2_with fail
  refine (shift_any c hc'.out _ (by omega) (by omega) N hN.out w1).mono ?_
  rintro e w2 ⟨rfl, rfl⟩
  go_wp2_with fail
  refine (shift_any _ hd.out _ (by omega) (by omega) M hM.out w1).mono ?_
  rintro e w2 ⟨rfl, rfl⟩
  rw [hT.out]
  go_wp2_with fail
  refine (shift_any c hc'.out _ (by omega) (by omega) (N + M) hS.out w1).mono ?_
  rintro e w2 ⟨rfl, rfl⟩
  go_wp2_with fail
  obtain ⟨T, hT⟩ : ∃ T : Nat, T = 1099511627776 := ⟨_, rfl⟩
  have HT : Hid (∀ n : Int, 1099511627776 ≤ n → Amt n T) := Lib.hid (fun n h => by rw [hT]; exact amt_top n h)
  clear hT
  refine (shift_any c hc'.out 2199023255552 (by omega) (by omega) T (HT.out _ (by omega)) w1).mono ?_
  rintro e w2 ⟨rfl, rfl⟩
  go_wp2_with fail
  refine (shift_any c hc'.out 1099511627776 (by omega) (by omega) T (HT.out _ (by omega)) w1).mono ?_
  rintro e w2 ⟨rfl, rfl⟩
  go_wp2
  go_ret
  exact ⟨rfl, hb1⟩
theorem lawFar_any (c : Int) (hc : 0 ≤ c) (hc2 : c < 4294967296) (n m : Int) (hn1 : -9223372036854775808 ≤ n) (hn2 : n ≤ 9223372036854775807) (hm1 : -9223372036854775808 ≤ m) (hm2 : m ≤ 9223372036854775807) (w : World) :
    Calls Try.prog 7 #[.int .u32 c, .int .i64 n, .int .i64 m] w fun e w' => e = .returned (.bool true) ∧ Below w.heap.size w w' := by
  obtain ⟨C, rfl⟩ := Int.eq_ofNat_of_zero_le hc
  by_cases h : n < 0 ∨ (0 ≤ n ∧ m < 0) ∨ (0 ≤ n ∧ 0 ≤ m ∧ 1073741824 ≤ n) ∨ (0 ≤ n ∧ 0 ≤ m ∧ n < 1073741824 ∧ 1073741824 ≤ m)
  · exact far_out C (by omega) n m hn1 hn2 hm1 hm2 h w
  · obtain ⟨N, rfl⟩ := Int.eq_ofNat_of_zero_le (a := n) (by omega)
    obtain ⟨M, rfl⟩ := Int.eq_ofNat_of_zero_le (a := m) (by omega)
    exact far_in C (by omega) N M N M (Lib.hid (Or.inr (Or.inl ⟨rfl, by omega⟩))) (Lib.hid (Or.inr (Or.inl ⟨rfl, by omega⟩))) (Lib.hid (Or.inr (Or.inl ⟨by omega, by omega⟩))) (by omega) (by omega) (by omega) (by omega) w
end Go.Proofs.Ytnlgijihfkkmgaa
