/-
  The walk of the law CrcShifts: for any two numbers and any count it returns true; no older memory is changed.
-/
import Derived.Test.YtnlgijihfkkmgaaAwake
namespace Go.Proofs.Ytnlgijihfkkmgaa
open Go.RowKit
set_option maxHeartbeats 800000 in
theorem shifts_neg (a b : Nat) (ha : Hid (a < 4294967296)) (hb : Hid (b < 4294967296)) (n : Int) (hn1 : -9223372036854775808 ≤ n) (hn : n < 0) (w : World) :
    Calls Try.prog 4 #[.int .u32 (a : Int), .int .u32 (b : Int), .int .i64 n] w fun e w' => e = .returned (.bool true) ∧ Below w.heap.size w w' := by
  have h0 : Hid (Amt n 0) := Lib.hid (Or.inl ⟨hn, rfl⟩)
  have hz : stn (8 * 0) a = a := rfl
  go_enter Try.func4, Try.ntmps4
  go_wp2_with fail
  refine (awake_any w).mono ?_
  rintro e w1 ⟨rfl, hb1⟩
  go_wp2_with fail
  refine (shift_any a ha.out n (by omega) (by omega) 0 h0.out w1).mono ?_
  rintro e w2 ⟨rfl, rfl⟩
  rw [hz]
  go_wp2_with fail
  refine (rshift_neg a n hn w1).mono ?_
  rintro e w2 ⟨rfl, rfl⟩
  go_wp2_with fail
  refine (join_any a b ha.out hb.out n (by omega) (by omega) 0 h0.out w1).mono ?_
  rintro e w2 ⟨rfl, rfl⟩
  rw [hz]
  go_wp2_with fail
  refine (rjoin_neg a b ha.out hb.out n hn w1).mono ?_
  rintro e w2 ⟨rfl, rfl⟩
  go_wp2
  go_ret
  exact ⟨rfl, hb1⟩
set_option maxHeartbeats 800000 in
theorem shifts_pos (a b : Nat) (ha : Hid (a < 4294967296)) (hb : Hid (b < 4294967296)) (n : Int) (N : Nat) (hn1 : 0 ≤ n) (hn : n ≤ 9223372036854775807) (hN : Hid (N ≤ 5000)) (h : (n ≤ 5000 ∧ n = (N : Int)) ∨ (5000 < n ∧ n % 5001 = (N : Int))) (w : World) :
    Calls Try.prog 4 #[.int .u32 (a : Int), .int .u32 (b : Int), .int .i64 n] w fun e w' => e = .returned (.bool true) ∧ Below w.heap.size w w' := by
  have h0 : Hid (Amt (N : Int) N) := Lib.hid (Or.inr (Or.inl ⟨rfl, by have := hN.out; omega⟩))
  have hNi : (N : Int) ≤ 5000 := by have := hN.out; omega
  rcases h with ⟨h, hq⟩ | ⟨h, hq⟩
  all_goals
    first | (subst hq; clear hn1 hn) | skip
    go_enter Try.func4, Try.ntmps4
    go_wp2_with fail
    refine (awake_any w).mono ?_
    rintro e w1 ⟨rfl, hb1⟩
    go_wp2_with fail
    refine (shift_any a ha.out (N : Int) (by omega) (by omega) N h0.out w1).mono ?_
    rintro e w2 ⟨rfl, rfl⟩
    go_wp2_with fail
    refine (rshift_any a ha.out N hN.out w1).mono ?_
    rintro e w2 ⟨rfl, rfl⟩
    go_wp2_with fail
    refine (join_any a b ha.out hb.out (N : Int) (by omega) (by omega) N h0.out w1).mono ?_
    rintro e w2 ⟨rfl, rfl⟩
    go_wp2_with fail
    refine (rjoin_any a b ha.out hb.out N hN.out w1).mono ?_
    rintro e w2 ⟨rfl, rfl⟩
    go_wp2
    go_ret
    exact ⟨rfl, hb1⟩
theorem lawShifts_any (a b : Int) (ha : 0 ≤ a) (ha2 : a < 4294967296) (hb : 0 ≤ b) (hb2 : b < 4294967296) (n : Int) (hn1 : -9223372036854775808 ≤ n) (hn2 : n ≤ 9223372036854775807) (w : World) :
    Calls Try.prog 4 #[.int .u32 a, .int .u32 b, .int .i64 n] w fun e w' => e = .returned (.bool true) ∧ Below w.heap.size w w' := by
  obtain ⟨A, rfl⟩ := Int.eq_ofNat_of_zero_le ha
  obtain ⟨B, rfl⟩ := Int.eq_ofNat_of_zero_le hb
  by_cases h : n < 0
  · exact shifts_neg A B (Lib.hid (by omega)) (Lib.hid (by omega)) n hn1 h w
  · by_cases h2 : n ≤ 5000
    · exact shifts_pos A B (Lib.hid (by omega)) (Lib.hid (by omega)) n n.toNat (by omega) hn2 (Lib.hid (by omega)) (Or.inl ⟨h2, by omega⟩) w
    · exact shifts_pos A B (Lib.hid (by omega)) (Lib.hid (by omega)) n (n % 5001).toNat (by omega) hn2 (Lib.hid (by omega)) (Or.inr ⟨by omega, by omega⟩) w
end Go.Proofs.Ytnlgijihfkkmgaa
