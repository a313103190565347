/-
  What a step, and so many steps, hand back in both programs, for any number.
-/
import Derived.Test.YtpiiknbjllgaoaaChecked
import Derived.Test.YtpiiknbjllgaoaaCMath
import Derived.WalkKit
import Derived.Deep.QuietTactic
import Derived.BigQuiet
import Derived.Laws.BitsAllLaws
import Derived.Lib.Hide
import Derived.Outline
namespace Go.Proofs.Ytpiiknbjllgaoaa
open Go.RowKit

theorem ret_u32 {a : Int} {b : Nat} (h : a = (b : Int)) : Ending.returned (.int .u32 a) = .returned (.int .u32 (b : Int)) := by rw [h]
theorem int_u32 {a b : Int} (h : a = b) : Value.int .u32 a = .int .u32 b := by rw [h]
theorem st_odd {c : Nat} (h : c % 2 = 1) : st c = (c / 2) ^^^ 3988292384 := by unfold st; rw [if_pos h]
theorem st_even {c : Nat} (h : ¬ c % 2 = 1) : st c = c / 2 := by unfold st; rw [if_neg h]
theorem st_int (c : Nat) (hc : c < 4294967296) (h : c % 2 = 1) : bits .xor .u32 ((c : Int) / 2) 3988292384 = (st c : Nat) := by
  rw [st_odd h]; exact u32_xor_nat (c / 2) 3988292384 (by omega) (by omega)

set_option maxHeartbeats 400000 in
theorem step_any (c : Nat) (hc : c < 4294967296) (w : World) :
    Calls Try.prog 86 #[.int .u32 (c : Int)] w fun e w' => e = .returned (.int .u32 (st c : Nat)) ∧ w = w' := by
  by_cases h : c % 2 = 1
  · have ho : ((c : Int) % 2 == 1) = true := by simp; omega
    go_enter Try.func86, Try.ntmps86
    go_wp2
    go_ret
    exact ⟨ret_u32 (st_int c hc h), rfl⟩
  · have ho : ((c : Int) % 2 == 1) = false := by simp; omega
    go_enter Try.func86, Try.ntmps86
    go_wp2
    go_ret
    exact ⟨ret_u32 (by rw [st_even h]; rfl), rfl⟩
set_option maxHeartbeats 400000 in
theorem rstep_any (c : Nat) (hc : c < 4294967296) (w : World) :
    Calls Try.prog 74 #[.int .u32 (c : Int)] w fun e w' => e = .returned (.int .u32 (st c : Nat)) ∧ w = w' := by
  by_cases h : c % 2 = 1
  · have ho : ((c : Int) % 2 == 1) = true := by simp; omega
    go_enter Try.func74, Try.ntmps74
    go_wp2
    go_ret
    exact ⟨ret_u32 (st_int c hc h), rfl⟩
  · have ho : ((c : Int) % 2 == 1) = false := by simp; omega
    go_enter Try.func74, Try.ntmps74
    go_wp2
    go_ret
    exact ⟨ret_u32 (by rw [st_even h]; rfl), rfl⟩

theorem enters21 (w : World) (args : Array Value) : Sem.run Try.prog (callFunc 86 args) w = .ok (.enter 86 args) w := by kernel_rfl
set_option maxHeartbeats 400000 in
theorem repeat_any (n : Nat) (hn : n ≤ 1000) (c : Nat) (hc : c < 4294967296) (w : World) :
    Calls Try.prog 85 #[.int .i64 (n : Int), .func (.func 86) #[] #[], .int .u32 (c : Int)] w fun e w' => e = .returned (.int .u32 (stn n c : Nat)) ∧ w = w' := by
  go_enter Try.func85, Try.ntmps85
  go_wp2
  go_loop [2, 8] (fun v i => ∃ k : Nat, k ≤ n ∧ i = .int .i64 k ∧ v = .int .u32 (stn k c : Nat)) (fun _ i => n - (intOf i).toNat)
  case atStart => exact ⟨0, by omega, rfl, rfl⟩
  case round =>
    obtain ⟨k, hk, rfl, rfl⟩ := hrel
    by_cases hlt : k < n
    · have hs := stn_lt k hc
      have hs2 := Lib.hid (stn_succ k c)
      go_wp2_with fail
      refine (step_any (stn k c) hs _).mono ?_
      rintro e w' ⟨rfl, rfl⟩
      go_wp2
      go_round
      case rel => exact ⟨k + 1, by omega, by go_num, by rw [hs2.out]⟩
      case measure => simp [intOf]; omega
    · go_wp2
      go_ret
      obtain rfl : k = n := by omega
      exact ⟨rfl, rfl⟩
end Go.Proofs.Ytpiiknbjllgaoaa
