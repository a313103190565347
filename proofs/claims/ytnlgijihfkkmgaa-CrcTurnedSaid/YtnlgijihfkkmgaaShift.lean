/-
  What Shift and Join hand back, for any numbers, and any count of bytes.
-/
import Derived.Test.YtnlgijihfkkmgaaTimes
namespace Go.Proofs.Ytnlgijihfkkmgaa
open Go.RowKit
/-- How many bytes a count asks for. -/
def Amt (n : Int) (m : Nat) : Prop := (n < 0 ∧ m = 0) ∨ (n = (m : Int) ∧ m ≤ 1099511627776) ∨ (1099511627776 < n ∧ m = 1099511627776)
theorem amt_le {n : Int} {m : Nat} (h : Amt n m) : m ≤ 1099511627776 := by
  rcases h with ⟨_, rfl⟩ | ⟨_, h⟩ | ⟨_, rfl⟩ <;> omega
/-- The relation of Shift's loop: d bytes are done, the power is that of u bytes, l are left. -/
def ShRel (c m : Nat) (v p l : Value) : Prop := ∃ d u L : Nat, m = d + u * L ∧ L ≤ 1099511627776 ∧ v = .int .u32 (stn (8 * d) c : Nat) ∧ p = .int .u32 (stn (8 * u) 2147483648 : Nat) ∧ l = .int .u64 L
theorem sh_start {c m : Nat} (h : m ≤ 1099511627776) : ShRel c m (.int .u32 c) (.int .u32 (stn 8 2147483648 : Nat)) (.int .u64 m) := ⟨0, 1, m, by omega, h, rfl, rfl, rfl⟩
theorem sh_odd (d u L m : Nat) (h : m = d + u * L) (ho : L % 2 = 1) : m = (d + u) + (2 * u) * (L / 2) := by
  have e : L = 2 * (L / 2) + 1 := by omega
  rw [h]
  conv => lhs; rw [e]
  rw [Nat.mul_add, Nat.mul_one, Nat.mul_comm 2 u, Nat.mul_assoc]
  omega
theorem sh_even (d u L m : Nat) (h : m = d + u * L) (ho : L % 2 = 0) : m = d + (2 * u) * (L / 2) := by
  have e : L = 2 * (L / 2) := by omega
  rw [h]
  conv => lhs; rw [e]
  rw [Nat.mul_comm 2 u, Nat.mul_assoc]
theorem sq (u : Nat) : mul (stn (8 * u) 2147483648) (stn (8 * u) 2147483648) = stn (8 * (2 * u)) 2147483648 := by
  rw [mul_stn _ (stn_lt _ (by omega)), ← stn_add]
  congr 1; omega
theorem mu (c d u : Nat) (hc : c < 4294967296) : mul (stn (8 * d) c) (stn (8 * u) 2147483648) = stn (8 * (d + u)) c := by
  rw [mul_stn _ (stn_lt _ hc), ← stn_add]
  congr 1; omega

set_option maxHeartbeats 800000 in
theorem shift_any (c : Nat) (hc : c < 4294967296) (n : Int) (hn1 : -9223372036854775808 ≤ n) (hn2 : n ≤ 9223372036854775807) (m : Nat) (hm : Amt n m) (w : World) :
    Calls Try.prog 14 #[.int .u32 (c : Int), .int .i64 n] w fun e w' => e = .returned (.int .u32 (stn (8 * m) c : Nat)) ∧ w = w' := by
  have hs := sh_start (c := c) (amt_le hm)
  have HS := Lib.hid hs
  clear hs
  rcases hm with ⟨h1, h2⟩ | ⟨h1, h2⟩ | ⟨h1, h2⟩
  all_goals
    have HM := Lib.hid h2
    first | (obtain rfl := h1) | (clear h2)
    go_enter Try.func14, Try.ntmps14
    go_wp2_with fail
    refine (repeat_any 8 (by omega) 2147483648 (by omega) _).mono ?_
    rintro e w' ⟨rfl, rfl⟩
    go_wp2
    go_loop [5, 6, 7] (fun v p l => ShRel c m v p l) (fun _ _ l => (intOf l).toNat)
    case atStart => first | exact HS.out | (have := HM.out; subst this; exact HS.out)
    case round =>
      obtain ⟨d, u, L, hL, hLb, rfl, rfl, rfl⟩ := hrel
      have HL := Lib.hid hL
      clear hL
      by_cases h0 : L = 0
      · subst h0
        go_wp2
        go_ret
        exact ⟨ret_u32 (a := ((stn (8 * d) c : Nat) : Int)) (by rw [HL.out, Nat.mul_zero, Nat.add_zero]), rfl⟩
      · have hlt : (0 : Int) < (L : Int) := by omega
        have hd := stn_lt (8 * d) hc
        have hu := stn_lt (8 * u) (c := 2147483648) (by omega)
        have SQ := Lib.hid (sq u)
        have MU := Lib.hid (mu c d u hc)
        by_cases ho : L % 2 = 1
        · have ht : ((L : Int) % 2 == 1) = true := by simp; omega
          have HO := Lib.hid ho
          clear ho
          go_wp2_with fail
          refine (times_any _ _ hd _).mono ?_
          rintro e w' ⟨rfl, rfl⟩
          go_wp2_with fail
          refine (times_any _ _ hu _).mono ?_
          rintro e w' ⟨rfl, rfl⟩
          go_wp2
          go_round
          case rel => exact ⟨d + u, 2 * u, L / 2, sh_odd d u L m HL.out HO.out, by omega, by rw [MU.out], by rw [SQ.out], by go_num⟩
          case measure => simp [intOf]; omega
        · have ht : ((L : Int) % 2 == 1) = false := by simp; omega
          have HO : Hid (L % 2 = 0) := Lib.hid (by omega)
          clear ho
          go_wp2_with fail
          refine (times_any _ _ hu _).mono ?_
          rintro e w' ⟨rfl, rfl⟩
          go_wp2
          go_round
          case rel => exact ⟨d, 2 * u, L / 2, sh_even d u L m HL.out HO.out, by omega, rfl, by rw [SQ.out], by go_num⟩
          case measure => simp [intOf]; omega
set_option maxHeartbeats 400000 in
theorem join_any (a b : Nat) (ha : a < 4294967296) (hb : b < 4294967296) (n : Int) (hn1 : -9223372036854775808 ≤ n) (hn2 : n ≤ 9223372036854775807) (m : Nat) (hm : Amt n m) (w : World) :
    Calls Try.prog 16 #[.int .u32 (a : Int), .int .u32 (b : Int), .int .i64 n] w fun e w' => e = .returned (.int .u32 (stn (8 * m) a ^^^ b : Nat)) ∧ w = w' := by
  have HM := Lib.hid hm
  have HX := Lib.hid (u32_xor_nat _ _ (stn_lt (8 * m) ha) hb)
  clear hm
  go_enter Try.func16, Try.ntmps16
  go_wp2_with fail
  refine (shift_any a ha n hn1 hn2 m HM.out _).mono ?_
  rintro e w' ⟨rfl, rfl⟩
  go_wp2
  go_ret
  exact ⟨ret_u32 HX.out, rfl⟩
end Go.Proofs.Ytnlgijihfkkmgaa
