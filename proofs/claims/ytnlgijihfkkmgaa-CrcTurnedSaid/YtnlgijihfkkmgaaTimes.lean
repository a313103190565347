/-
  What the product of two states hands back, for any two numbers below 2^32.
-/
import Derived.Test.YtnlgijihfkkmgaaStep
namespace Go.Proofs.Ytnlgijihfkkmgaa
open Go.RowKit
theorem and_two_pow (x i : Nat) : x &&& 2 ^ i = (x.testBit i).toNat * 2 ^ i := by
  apply Nat.eq_of_testBit_eq
  intro j
  rw [Nat.testBit_and, Nat.testBit_two_pow]
  by_cases h : i = j
  · subst h
    cases x.testBit i <;> simp
  · cases x.testBit i <;> simp [h]
theorem bit_test (b k : Nat) (hk : k < 32) : (bits .and .u32 ((b : Int) * 2 ^ k % 4294967296) 2147483648 != 0) = b.testBit (31 - k) := by
  have e : (b : Int) * 2 ^ k % 4294967296 = ((b * 2 ^ k % 2 ^ 32 : Nat) : Int) := by
    simp
  have e2 : bits .and .u32 ((b * 2 ^ k % 2 ^ 32 : Nat) : Int) ((2147483648 : Nat) : Int) = _ := u32_and_nat _ _ (Nat.mod_lt _ (by decide)) (by decide)
  have e3 : (b * 2 ^ k % 2 ^ 32) &&& 2147483648 = ((b * 2 ^ k % 2 ^ 32).testBit 31).toNat * 2147483648 := and_two_pow _ 31
  rw [e, show (2147483648 : Int) = ((2147483648 : Nat) : Int) from rfl, e2, e3, Nat.testBit_mod_two_pow, Nat.testBit_mul_two_pow]
  have h1 : decide (31 < 32) = true := rfl
  have h2 : decide (31 ≥ k) = true := by simp; omega
  rw [h1, h2, Bool.true_and, Bool.true_and]
  cases b.testBit (31 - k) <;> rfl
set_option maxHeartbeats 400000 in
theorem times_any (a b : Nat) (ha : a < 4294967296) (w : World) :
    Calls Try.prog 22 #[.int .u32 (a : Int), .int .u32 (b : Int)] w fun e w' => e = .returned (.int .u32 (mul a b : Nat)) ∧ w = w' := by
  go_enter Try.func22, Try.ntmps22
  go_wp2
  go_loop [0, 5, 7] (fun c v i => ∃ k : Nat, k ≤ 32 ∧ i = .int .i64 k ∧ c = .int .u32 (stn k a : Nat) ∧ v = .int .u32 (mulp a b k : Nat)) (fun _ _ i => 32 - (intOf i).toNat)
  case atStart => exact ⟨0, by omega, rfl, rfl, rfl⟩
  case round =>
    obtain ⟨k, hk, rfl, rfl, rfl⟩ := hrel
    by_cases hlt : k < 32
    · have hs := stn_lt k ha
      have hm := mulp_lt a b k ha
      have hs2 := Lib.hid (stn_succ k a)
      by_cases hb : b.testBit (31 - k) = true
      · have ht := (bit_test b k hlt).trans hb
        have hp : mulp a b (k + 1) = mulp a b k ^^^ stn k a := by simp only [mulp]; rw [if_pos hb]
        have hq := u32_xor_nat _ _ hm hs
        have HP := Lib.hid hp
        have HQ := Lib.hid hq
        clear hp hq hb
        go_wp2_with fail
        refine (step_any (stn k a) hs _).mono ?_
        rintro e w' ⟨rfl, rfl⟩
        go_wp2
        go_round
        case rel => exact ⟨k + 1, by omega, by go_num, by rw [hs2.out], by rw [HP.out, ← HQ.out]⟩
        case measure => simp [intOf]; omega
      · have hb' : b.testBit (31 - k) = false := by simpa using hb
        have ht := (bit_test b k hlt).trans hb'
        have hp : mulp a b (k + 1) = mulp a b k := by simp only [mulp]; rw [if_neg hb]
        have HP := Lib.hid hp
        clear hp hb hb'
        go_wp2_with fail
        refine (step_any (stn k a) hs _).mono ?_
        rintro e w' ⟨rfl, rfl⟩
        go_wp2
        go_round
        case rel => exact ⟨k + 1, by omega, by go_num, by rw [hs2.out], by rw [HP.out]⟩
        case measure => simp [intOf]; omega
    · go_wp2
      go_ret
      obtain rfl : k = 32 := by omega
      exact ⟨rfl, rfl⟩
end Go.Proofs.Ytnlgijihfkkmgaa
